import PyProof.Rows.All
import Wide.All
import OpenK.AllK
import Wide.FinOn
import PyProof.EqAt
import PyProof.EqKinds
import PyProof.TupleCall
import PyProof.FString
import PyProof.FString4
import KE.KExcSuper
import HandS.ForMost
import HandS.ForExc
import HandS.ExcIs
import KE.KExcIs
import HandS.IsInst
import HandS.ExcCtx
import HandS.HotCalls
import HandS.Evl
import HandS.Wide
import HandS.Defaults
import HandS.Gcd
import HandS.FStr
import HandS.Codes
import HandS.StrMore
import HandS.Text
import HandS.Walk
import HandS.Iter
import HandS.Comp
import PySem.Challenge.RW_renamedhorn_k04_share_quotients
set_option Elab.async false
set_option linter.all false
set_option maxRecDepth 100000
set_option maxHeartbeats 4000000
/-! Own error classes (over a class over ValueError) whose __init__ hands a text to super().__init__ and keeps one argument, or none. -/
namespace Er
open PySem PySem.W PySem.Calls PyProof.Rows PySem.HandSPX

/-- the text of __init__(self, f): super().__init__(me); self.f = f -/
def args1 (f : Str) (p1 p2 : Pos) : Arguments := { posonlyargs := [], args := [{ arg := "self", annotation := none, pos := p1 }, { arg := f, annotation := none, pos := p2 }], vararg := none, kwonlyargs := [], kw_defaults := [], kwarg := none, defaults := [] }
def args0 (p1 : Pos) : Arguments := { posonlyargs := [], args := [{ arg := "self", annotation := none, pos := p1 }], vararg := none, kwonlyargs := [], kw_defaults := [], kwarg := none, defaults := [] }
def supS (me : Expr) (a b c d e : Pos) : Stmt := .Expr (.Call (.Attribute (.Call (.Name "super" a) [] [] b) "__init__" c) [me] [] d) e
def keepS (f : Str) (a b c d : Pos) : Stmt := .Assign [.Attribute (.Name "self" a) f b] (.Name f c) d
def scope1 (f : Str) : Scope := { kind := .function, names := [(PySem.Str.ofString "self", .local), (f, .local), (PySem.Str.ofString "__class__", .free), (PySem.Str.ofString "super", .globalImplicit)], isGenerator := false, isCoroutine := false, more := [] }
def scope0 : Scope := { kind := .function, names := [(PySem.Str.ofString "self", .local), (PySem.Str.ofString "__class__", .free), (PySem.Str.ofString "super", .globalImplicit)], isGenerator := false, isCoroutine := false, more := [] }

/-- what the written part says of an error class at C with its __init__ at fI, its __class__ cell at cc, its code at cda -/
structure Cls1 (P : Program) (K : Frag) (mg : Str → Option Value) (nm : Str) (C fI : Addr) (pars : Arguments) (body : List Stmt) (sc : Scope) : Prop where
  gC : mg nm = some (.ref C)
  cls : ∃ n q N bs bm sn sub ab col dd k0 k1 k2 k3 k5, K.lookup C = some (excClassObj n q C N bs bm true sn sub ab col dd k0 k1 k2 k3 k5 "ValueError.__new__") ∧ refsVE bm = true
  sa : findIn K (.ref C) "__setattr__" = some (some (.builtin "object.__setattr__"))
  ga : findIn K (.ref C) "__getattribute__" = some (some (.builtin "BaseException.__getattribute__"))
  gg : findIn K (.ref C) "__getattr__" = some none
  iC : findIn K (.ref C) "__init__" = some (some (.ref fI))
  tC : typeIn K (.ref fI) = some (.type "function")
  kC : keepIn K (.ref C) = true
  exC : subIn K (.ref C) (.type "BaseException") = some true
  veC : subIn K (.ref C) (.type "ValueError") = some true
  tyC : typeIn K (.ref C) = some (.type "type")
  hdC : hasDictIn K C = true
  te : exmOne K (.ref C) (.ref C) = some true
  up : ks_superIn K C C "__init__" = some (some (.builtin "ValueError.__init__"))
  self : mroIn K C (.ref C) = some true
  op : nsIn K cStatics "thirdparty.any" = some none
  noS : mg "super" = none
  fn : ∃ (oc : Value) (od : Option Addr) (doc pm : Value) (an : Option Addr) (cda cc : Addr) (ct : Value) (osl : Array (Option Value)) (ccl cl : Value) (cdd cld : Option Addr) (vs : Array Value) (ccs csl : Array (Option Value)) (file : Str) (tf : Tok),
    K.lookup fI = some ⟨oc, od, .func (ksFn "__init__" (nm ++ ".__init__") pars body sc .none .none doc pm an (.ref cda) ct cc), osl⟩ ∧ codeIn K (.ref cda) (nm ++ ".__init__") = true ∧
    K.lookup cda = some ⟨ccl, cdd, .fields vs, ccs⟩ ∧ vs[2]? = some (.str file tf) ∧ ((P.main.file : Str) == file) = true ∧
    K.lookup cc = some ⟨cl, cld, .cell (some (.ref C)), csl⟩
  noM : (P.main.scope.names.lookup ("super" : Str)).isSome = false

/-- an expression that gives a text and makes nothing else, where the name x holds v -/
structure Msg (me : Expr) (x : Str) (v : Value) (sc : Scope) : Prop where
  call : ∀ (env : Env) (a b c d : Pos), (c.endLine == d.line) = true → ∃ pl : Sem Bool, eval (.Call (.Attribute (.Call (.Name "super" a) [] [] b) "__init__" c) [me] [] d) env = (do
      let ov ← attributeBase (.Call (.Name "super" a) [] [] b) "__init__" env (eval (.Call (.Name "super" a) [] [] b) env)
      standAt c.atName
      let (f, first) ← holding [ov] (getMethod ov "__init__" pl)
      callWith d f first (backTo d (starEach [me] env)) [])
  star : ∀ env : Env, starEach [me] env = (false, eval me env) :: starEach [] env
  swap : ∀ (env : Env) (a b c d : Pos) (n : Nat), swapsWith (.Call (.Attribute (.Call (.Name "super" a) [] [] b) "__init__" c) [me] [] d) none n env = pure false
  text : ∀ (prog : Program) (w : World) (A : Around) (E : Value → Shared → Prop) (env : Env) (s : Shared) (m : Str → Option Value) (Q : Value → Shared → Prop),
    env.scope = sc → s.heap.Ns env.locals m → m x = some v → (∀ y tk n, Q (.str y tk) { s with toks := n }) → wpAny (model prog w) A (eval me env) Q E s

theorem size1 (v : Value) : [v].length ≤ sizeLine := by
  rw [sizeLine_eq]
  exact (by decide : 1 ≤ 16777216)
theorem size0 : ([] : List Value).length ≤ sizeLine := Nat.zero_le _
theorem call_eq {o me : Expr} {nm : Str} {c d : Pos} {env : Env} (he : (c.endLine == d.line) = true) (hf : methodCallForm ([me].length + ([] : List Keyword).length) (backTo d (starEach [me] env)) (backToKw d (keywordEach [] env)) = true) :
    eval (.Call (.Attribute o nm c) [me] [] d) env = (do
      let ov ← attributeBase o nm env (eval o env)
      standAt c.atName
      let (f, first) ← holding [ov] (getMethod ov nm (do return (← importBound o env).getD true))
      callWith d f first (backTo d (starEach [me] env)) []) := by
  show (do
    let ov ← attributeBase o nm env (eval o env)
    standAt c.atName
    methodCall o nm c d env ov ([me].length + ([] : List Keyword).length) (backTo d (starEach [me] env)) (backToKw d (keywordEach [] env))) = _
  unfold methodCall
  rw [hf]
  unfold methodCallPos
  simp only [he, Bool.or_true, if_true]
  rfl
/-- an error of the class at S is what «except S» names -/
theorem exm_self {S : Addr} {K : Frag} (h1 : subIn K (.ref S) (.type "BaseException") = some true) (h2 : isClsIn K S = true) (h3 : typeIn K (.ref S) = some (.type "type")) (h4 : subIn K (.ref S) (.ref S) = some true) :
    exmOne K (.ref S) (.ref S) = some true := by
  have e1 : (subIn K (.ref S) (.type "BaseException") == some true) = true := by rw [h1] <;> rfl
  have e2 : ((clsIn K S).isSome && typeIn K (.ref S) == some (.type "type")) = true := by
    have h2' : (clsIn K S).isSome = true := h2
    rw [h2', h3] <;> rfl
  show (if (subIn K (.ref S) (.type "BaseException") == some true) = true then (if ((clsIn K S).isSome && typeIn K (.ref S) == some (.type "type")) = true then subIn K (.ref S) (.ref S) else none) else none) = some true
  rw [if_pos e1, if_pos e2]
  exact h4
structure Made (h h' : Heap) (e C : Addr) (d : Option Addr) (F : Str → Option Value) : Prop where
  keep : ∀ b o, h.get? b = some o → h'.get? b = some o
  new : h.objs.size ≤ e
  obj : ∃ oe vs, h'.get? e = some oe ∧ oe.cls = .ref C ∧ oe.dict = d ∧ oe.data = .fields vs ∧ vs[1]? = some .none
  own : ∀ dx, d = some dx → h.objs.size ≤ dx ∧ dx ≠ e ∧ h'.Ns1 dx F

section
variable {prog : Program} {w : World} {A : Around} {E : Value → Shared → Prop} {R : Result → Shared → Prop} {s : Shared} {K : Frag} {mg mb : Str → Option Value} {C fI : Addr} {nm f : Str}

/-- ValueError.__init__ bound to the exception, called -/
theorem call_mw {h : Heap} {g : Array GenState} {d : Drawn} {t : Nat} {os : OsState} {n q : Str} {N : Addr} {bs bm : List Value} {hdct : Bool} {sn : List Str} {sub : List Value} {ab : Bool} {col : Option Bool} {dd : Option Addr} {k0 k1 k2 k3 k5 : Option Value}
    {u e t0 : Addr} {rest : List Value} {Q : Value → Shared → Prop}
    (hC : h.get? C = some (excClassObj n q C N bs bm hdct sn sub ab col dd k0 k1 k2 k3 k5 "ValueError.__new__")) (he : h.get? e = some (excO C t0)) (hu : h.get? u = some (kxs_mw "ValueError.__init__" e)) (hrest : rest.length ≤ sizeLine)
    (hq : ∀ h' t1, (∀ b o, b ≠ e → h.get? b = some o → h'.get? b = some o) → h'.get? e = some (excO C t1) → Q .none ⟨h', g, d, t, os⟩) :
    wpAny (model prog w) A (call (.ref u) rest) Q E ⟨h, g, d, t, os⟩ := by
  refine wpAny_call
    (codeAny_of_tree ?_)
  show wpAny _ A.in1
    (callAny (.ref u) ⟨rest, []⟩) _ _ _
  simp only
    [callAny]
  refine wpAny_bind
    (wpAny_load hu ?_)
  simp only [kxs_mw, show (Value.type "method-wrapper" == Value.type "method" || Value.type "method-wrapper" == Value.type "builtin_function_or_method" ||
    Value.type "method-wrapper" == Value.type "method-wrapper") = true by decide, if_true]
  refine KFB.if_so (by decide) ?_
  refine wpAny_bind
    (check_bound_init PySem.F.excBase_ValueError.toExcCallFacts hC he rfl ?_)
  refine wpAny_bind (wpAny_pure
    (wpAny_pure ?_))
  refine ⟨plainId_quiet PySem.F.excBase_ValueError.init.plain _, codeAny_builtin PySem.F.excBase_ValueError.initEntry ?_⟩
  exact exc_init_tree (cls := .ref C) (t0 := t0) (dv := none) (c2 := .none) (c3 := .none) (b4 := .bool false) he hrest
    (fun h' k e' _ => hq h' _ k e')

/-- what super().__init__(..) leaves of a fresh exception at x -/
structure Sup (h h' : Heap) (x C : Addr) : Prop where
  keep : ∀ b o, b ≠ x → h.get? b = some o → h'.get? b = some o
  obj : ∃ t1, h'.get? x = some (excO C t1)
theorem sup_body {pars : Arguments} {body0 body : List Stmt} {sc : Scope} {me : Expr} {a b c d e : Pos} {env : Env} {L t0 x : Addr} {m : Str → Option Value} {y : Str} {v : Value} {rest : List Stmt} {Q : Flow → Shared → Prop} {ar : Arg} {h : Heap} {g : Array GenState} {dr : Drawn} {t : Nat} {os : OsState}
    (T : Cls1 prog K mg nm C fI pars body0 sc) (X : K.In h) (hg : h.Ns mainGlobals mg) (hb : h.Ns builtinsNs mb) (hbb : ∀ z : Str, z ≠ "__name__" → mb z = bootBuiltins z)
    (hL : h.Ns L m) (hx : h.get? x = some (excO C t0)) (hself : m "self" = some (.ref x)) (hp : (pars.posonlyargs ++ pars.args).head? = some ar) (hpa : ar.arg = "self") (hM : Msg me y v sc) (hmy : m y = some v)
    (henv : ∃ qual cda cc ccl cl cdd cld vs ccs csl file tf, env = ksEnv qual sc L fI (.ref cda) cc ∧ K.lookup cda = some ⟨ccl, cdd, .fields vs, ccs⟩ ∧ vs[2]? = some (.str file tf) ∧ ((prog.main.file : Str) == file) = true ∧
      K.lookup cc = some ⟨cl, cld, .cell (some (.ref C)), csl⟩)
    (hks : sc.names.lookup ("super" : Str) = some .globalImplicit) (hkc : sc.names.lookup ("__class__" : Str) = some .free) (hka : sc.names.lookup ("self" : Str) = some .local) (hk : sc.kind = .function) (hcd : (c.endLine == d.line) = true)
    (hq : ∀ h' tk, Sup h h' x C → _root_.PySem.wpAt (model prog w) A (.func body env) (execs rest env) Q E ⟨h', g, dr, tk, os⟩) :
    _root_.PySem.wpAt (model prog w) A (.func body env) (execs (supS me a b c d e :: rest) env) Q E ⟨h, g, dr, t, os⟩ := by
  obtain ⟨qual, cda, cc, ccl, cl, cdd, cld, vs, ccs, csl, file, tf, rfl, hcode, hvs, hfile, hcell⟩ := henv
  obtain ⟨oc, od, doc, pm, an, cda', cc', ct, osl, ccl', cl', cdd', cld', vs', ccs', csl', file', tf', hf, _⟩ := T.fn
  obtain ⟨n, q, N, bs, bm, sn, sub, ab, col, dd, k0, k1, k2, k3, k5, hC, hbm⟩ := T.cls
  have hcl : clsIn K C = some { name := n, bases := bs, mro := .ref C :: bm, ns := N, qualname := q, hasDict := true, slotNames := sn, subclasses := sub, abstract := ab, collection := col, hasDel := false } := by unfold clsIn; rw [hC] <;> rfl
  have hup : alongIn K "__init__" (((Value.ref C :: bm).dropWhile (· != .ref C)).drop 1) = some (some (.builtin "ValueError.__init__")) := by
    have z := T.up
    unfold ks_superIn at z
    rw [hcl] at z
    exact z
  obtain ⟨pl, hcall⟩ := hM.call (ksEnv qual sc L fI (.ref cda) cc) a b c d hcd
  refine ks_wpAt_execs_cons (ks_wpAt_Expr_any (ks_wpAt_MethodCall (pl := pl) ?_ hcall) (by show (sc.kind == .module && _) = false; rw [hk]; rfl) (hM.swap _ _ _ _ _ _))
  refine ks_wpAt_super_base (fd := ksFn "__init__" (nm ++ ".__init__") pars body0 sc .none .none doc pm an (.ref cda') ct cc') hks hkc (by decide) rfl (X _ _ hf) rfl hp rfl (X _ _ hcode) rfl hvs hfile T.noM ?_
  refine ks_loadName_global hk hks (loadGlobal_builtin (env := ksEnv qual sc L fI (.ref cda) cc) hg T.noS hb ((hbb _ (by decide)).trans (show bootBuiltins "super" = some (.type "super") by first | rfl | kernel_rfl)) ⟨rfl, ?_⟩)
  refine wpAny_loadName_free hk hkc (c := cc) (v := .ref C) rfl ⟨_, X _ _ hcell, rfl⟩ ?_
  rw [hpa]
  refine wpAny_loadName_local hk hka hL hself ?_
  refine ks_wpAny_isType_cls (X _ _ hC) rfl ⟨rfl, ?_⟩
  have I : InstAt h x (excO C t0) C none := ⟨hx, rfl, rfl, trivial⟩
  refine ks_wpAny_call_super (X _ _ hC) rfl hx rfl (fun c z => by cases z) (looks_mroIn X T.self) (fun h2 hso kk => ?_)
  have X2 : K.In h2 := X.keeps kk
  have hx2 := kk _ _ hx
  have I2 : InstAt h2 x (excO C t0) C none := ⟨hx2, rfl, rfl, trivial⟩
  refine kxs_getMethod kxs_ValueError hso (looks_opaque X2 T.op) (l₀ := .ref C :: bm) (fun A Q E s k q => wpAny_bind ((looks_clsIn X2 hcl) A _ E s k (wpAny_pure q))) rfl X2 hup (I2.type.andThen (looks_subIn X2 T.veC)) (ks_ne X2 I2 hcl) (by decide) ?_
  have kk3 : ∀ b o, h2.get? b = some o → (h2.push (kxs_mw "ValueError.__init__" x)).get? b = some o := fun b o z => Heap.get?_push_of_some _ z
  have hu : (h2.push (kxs_mw "ValueError.__init__" x)).get? h2.objs.size = some (kxs_mw "ValueError.__init__" x) := Heap.get?_push_at rfl rfl
  have hLx : L ≠ x := fun z => by
    obtain ⟨oL, es, ep, hoL, hdL, _⟩ := hL
    rw [z, hx] at hoL
    have z2 := Option.some.inj hoL
    subst z2
    cases hdL
  have he1 := hM.star (ksEnv qual sc L fI (.ref cda) cc)
  refine kxs_callWith (i := "ValueError.__init__") (x := x) (by rw [he1]; rfl) ?_
  rw [he1]
  refine evalArgs_plain ?_
  refine spliced_cons ?_
  refine hM.text _ _ _ _ _ _ m _ rfl (hL.keeps fun b o z => kk3 b o (kk b o z)) hmy (fun y' tk' n' => ?_)
  refine spliced_nil ?_
  refine ⟨hu, ?_⟩
  refine call_mw (X2.keeps kk3 _ _ hC) (kk3 _ _ hx2) hu (size1 _) (fun h' t1 k' e' => ?_)
  exact hq h' _ ⟨fun b o nb z => k' b o nb (kk3 b o (kk b o z)), t1, e'⟩
theorem ldL {env : Env} {m : Str → Option Value} {x : Str} {pos : Pos} {v : Value} {Q : Value → Shared → Prop} (hn : s.heap.Ns env.locals m) (hv : m x = some v) (hk : env.scope.kind = .function) (hl : env.kindOf x = some .local) (hd : (x == ("__debug__" : Str)) = false) (h : Q v s) :
    wpAny (model prog w) A (eval (.Name x pos) env) Q E s := wpAny_Name (wpAny_loadName_local hk hl hn hv h) hd


/-- how a field's name stands in such a text -/
structure Fld (f : Str) : Prop where
  bind : ∀ (q : Str) (p1 p2 : Pos) (body : List Stmt) (dV kV doc pm : Value) (an : Option Addr) (cd ct : Value) (cc : Addr) (x v : Value), bindArgs (ksFn "__init__" q (args1 f p1 p2) body (scope1 f) .none .none doc pm an cd ct cc) ⟨[x, v], []⟩ = pure [(("self" : Str), x), (f, v)]
  ne : (f == ("self" : Str)) = false
  dbg : (f == ("__debug__" : Str)) = false
  kf : (scope1 f).names.lookup f = some .local
  ks : (scope1 f).names.lookup ("super" : Str) = some .globalImplicit
  kc : (scope1 f).names.lookup ("__class__" : Str) = some .free
  cell : ∀ x ∈ (scope1 f).names, x.2 ≠ .cell

/-- what __init__ leaves of a fresh exception at x: a dict at dx that holds the field -/
structure End1 (h h' : Heap) (x C dx : Addr) (f : Str) (v : Value) : Prop where
  keep : ∀ b o, b ≠ x → h.get? b = some o → h'.get? b = some o
  obj : ∃ t1, h'.get? x = some { cls := .ref C, dict := some dx, data := .fields #[.ref t1, .none, .none, .none, .bool false, .none] }
  big : h.objs.size ≤ dx
  ne : dx ≠ x
  ns : h'.Ns1 dx (fun y => if y = f then some v else none)
/-- the __init__ of one argument -/
theorem init1 {f : Str} {p1 p2 a b c d e a' b' c' d' : Pos} {me : Expr} {x t0 : Addr} {v : Value}
    (T : Cls1 prog K mg nm C fI (args1 f p1 p2) [supS me a b c d e, keepS f a' b' c' d'] (scope1 f)) (X : K.In s.heap) (hg : s.heap.Ns mainGlobals mg) (hb : s.heap.Ns builtinsNs mb) (hbb : ∀ z : Str, z ≠ "__name__" → mb z = bootBuiltins z)
    (hlim : s.heap.NoLimit) (hx : s.heap.get? x = some (excO C t0)) (hnx : K.lookup x = none) (hroom : A.depth < recursionLimit) (hM : Msg me f v (scope1 f)) (hcdp : (c.endLine == d.line) = true) (hF : Fld f) (noN : findIn K (.ref C) f = some none)
    (hq : ∀ h' tk dx, End1 s.heap h' x C dx f v → R (.ok (.ret .none)) { s with heap := h', toks := tk }) :
    codeAny (model prog w) A (.call (.ref fI) ⟨[.ref x, v], []⟩) R s := by
  obtain ⟨oc, od, doc, pm, an, cda, cc, ct, osl, ccl, cl, cdd, cld, vs, ccs, csl, file, tf, hf, hcd, hcode, hvs, hfile, hcell⟩ := T.fn
  obtain ⟨n, q, N, bs, bm, sn, sub, ab, col, dd, k0, k1, k2, k3, k5, hC, hbm⟩ := T.cls
  have hcl : clsIn K C = some { name := n, bases := bs, mro := .ref C :: bm, ns := N, qualname := q, hasDict := true, slotNames := sn, subclasses := sub, abstract := ab, collection := col, hasDel := false } := by unfold clsIn; rw [hC] <;> rfl
  have l1 : (scope1 f).names.lookup ("self" : Str) = some .local := rfl
  have fs : ¬ f = ("self" : Str) := by simpa using hF.ne
  refine ks_codeAny_call_defAt (fd := ksFn "__init__" (nm ++ ".__init__") (args1 f p1 p2) [supS me a b c d e, keepS f a' b' c' d'] (scope1 f) .none .none doc pm an (.ref cda) ct cc) (body := [supS me a b c d e, keepS f a' b' c' d'])
    (binds := [(("self" : Str), Value.ref x), (f, v)]) hroom (X _ _ hf) rfl hlim (codeRec_of X hcd) rfl (BindsTo.of_eq (hF.bind _ _ _ _ .none .none _ _ _ _ _ _ _ _)) hF.cell (fun y hy => ?_) (fun h₁ hns kk => ?_)
  · rcases List.mem_cons.mp hy with e | hy
    · rw [e]
      exact l1
    · rw [List.mem_singleton.mp hy]
      exact hF.kf
  · obtain ⟨hp, g, dr, tk, os⟩ := s
    have X1 : K.In h₁ := X.keeps kk
    have ms : (fun y : Str => ([(("self" : Str), Value.ref x), (f, v)]).reverse.lookup y) ("self" : Str) = some (.ref x) := by
      show List.lookup ("self" : Str) [(f, v), (("self" : Str), Value.ref x)] = some (.ref x)
      have z : (("self" : Str) == f) = false := by
        rw [beq_eq_false_iff_ne]
        exact fun z => fs z.symm
      rw [List.lookup_cons, z]
      simp [List.lookup]
    have mf : (fun y : Str => ([(("self" : Str), Value.ref x), (f, v)]).reverse.lookup y) f = some v := by
      show List.lookup f [(f, v), (("self" : Str), Value.ref x)] = some v
      simp [List.lookup]
    have hL : hp.objs.size ≠ x := Nat.ne_of_gt (Heap.lt_size hx)
    refine sup_body (mb := mb) T X1 (hg.keeps kk) (hb.keeps kk) hbb hns (kk _ _ hx) ms rfl rfl hM mf ⟨_, cda, cc, ccl, cl, cdd, cld, vs, ccs, csl, file, tf, rfl, hcode, hvs, hfile, hcell⟩ hF.ks hF.kc l1 rfl hcdp (fun h2 tk2 S => ?_)
    obtain ⟨t1, hx2⟩ := S.obj
    have hns2 : h2.Ns hp.objs.size _ := hns.at fun o z => S.keep _ _ hL z
    have X2 : K.In h2 := fun b o z => S.keep b o (fun y => by
      rw [y, hnx] at z
      cases z) (X1 b o z)
    refine ks_wpAt_execs_cons (wpAt_of_wpAny ?_)
    refine plainObj_wpAny_Assign_Attribute ?_
    refine ldL (v := v) hns2 mf rfl hF.kf hF.dbg (ldL (v := .ref x) hns2 ms rfl l1 (by decide) ?_)
    refine set_plain X2 (ox := excO C t1) (od := none) ⟨hx2, rfl, rfl, trivial⟩ T.sa ?_
    refine exc_osa X2 hx2 hcl (show refsVE (.ref C :: bm) = true from hbm) rfl noN (fun h3 tk3 dx k3 dn dne hx3 hn3 => ?_)
    refine wpAt_of_wpAny (wpAny_execs_nil (hq h3 tk3 dx ⟨fun b o nb z => k3 b o nb (S.keep b o nb (kk b o z)), ⟨t1, hx3⟩, ?_, dne, hn3⟩))
    obtain ⟨oL, _, _, hoL, _⟩ := hns2
    exact Nat.le_trans (Nat.le_of_lt (Heap.lt_size hoL)) dn
theorem cell0 : ∀ y ∈ scope0.names, y.2 ≠ .cell := by decide
/-- the __init__ without argument -/
theorem init0 {p1 a b c d e : Pos} {me : Expr} {x t0 : Addr} (T : Cls1 prog K mg nm C fI (args0 p1) [supS me a b c d e] scope0) (X : K.In s.heap) (hg : s.heap.Ns mainGlobals mg) (hb : s.heap.Ns builtinsNs mb) (hbb : ∀ z : Str, z ≠ "__name__" → mb z = bootBuiltins z)
    (hlim : s.heap.NoLimit) (hx : s.heap.get? x = some (excO C t0)) (hnx : K.lookup x = none) (hroom : A.depth < recursionLimit) (hM : Msg me "self" (.ref x) scope0) (hcdp : (c.endLine == d.line) = true)
    (hq : ∀ h' tk, Sup s.heap h' x C → R (.ok (.ret .none)) { s with heap := h', toks := tk }) :
    codeAny (model prog w) A (.call (.ref fI) ⟨[.ref x], []⟩) R s := by
  obtain ⟨oc, od, doc, pm, an, cda, cc, ct, osl, ccl, cl, cdd, cld, vs, ccs, csl, file, tf, hf, hcd, hcode, hvs, hfile, hcell⟩ := T.fn
  refine ks_codeAny_call_defAt (fd := ksFn "__init__" (nm ++ ".__init__") (args0 p1) [supS me a b c d e] scope0 .none .none doc pm an (.ref cda) ct cc) (body := [supS me a b c d e])
    (binds := [(("self" : Str), Value.ref x)]) hroom (X _ _ hf) rfl hlim (codeRec_of X hcd) rfl (BindsTo.of_eq rfl) (by intro y hy; exact cell0 y hy) (fun y hy => ?_) (fun h₁ hns kk => ?_)
  · rw [List.mem_singleton.mp hy]
    rfl
  · obtain ⟨hp, g, dr, tk, os⟩ := s
    have X1 : K.In h₁ := X.keeps kk
    refine sup_body (mb := mb) T X1 (hg.keeps kk) (hb.keeps kk) hbb hns (kk _ _ hx) rfl rfl rfl hM rfl ⟨_, cda, cc, ccl, cl, cdd, cld, vs, ccs, csl, file, tf, rfl, hcode, hvs, hfile, hcell⟩ rfl rfl rfl rfl hcdp (fun h2 tk2 S => ?_)
    exact wpAt_of_wpAny (wpAny_execs_nil (hq h2 tk2 ⟨fun b o nb z => S.keep b o nb (kk b o z), S.obj⟩))

/-- a made error of one argument -/
structure Own1 (h h' : Heap) (e C d : Addr) (f : Str) (v : Value) : Prop where
  keep : ∀ b o, h.get? b = some o → h'.get? b = some o
  new : h.objs.size ≤ e
  obj : ∃ oe vs, h'.get? e = some oe ∧ oe.cls = .ref C ∧ oe.dict = some d ∧ oe.data = .fields vs ∧ vs[1]? = some .none ∧ vs[2]? = some .none
  big : h.objs.size ≤ d
  ne : d ≠ e
  ns : h'.Ns1 d (fun y => if y = f then some v else none)
structure Own0 (h h' : Heap) (e C : Addr) : Prop where
  keep : ∀ b o, h.get? b = some o → h'.get? b = some o
  new : h.objs.size ≤ e
  obj : ∃ oe vs, h'.get? e = some oe ∧ oe.cls = .ref C ∧ oe.dict = none ∧ oe.data = .fields vs ∧ vs[1]? = some .none ∧ vs[2]? = some .none
theorem fresh_of {hp : Heap} (X : K.In hp) {n : Nat} (h : hp.objs.size ≤ n) : K.lookup n = none := by
  cases e : K.lookup n with
  | none => rfl
  | some o => exact absurd (Nat.lt_of_lt_of_le (Heap.lt_size (X _ _ e)) h) (Nat.lt_irrefl _)
theorem made1 {f : Str} {p1 p2 a b c d e a' b' c' d' : Pos} {me : Expr} {v : Value}
    (T : Cls1 prog K mg nm C fI (args1 f p1 p2) [supS me a b c d e, keepS f a' b' c' d'] (scope1 f)) (X : K.In s.heap) (hg : s.heap.Ns mainGlobals mg) (hb : s.heap.Ns builtinsNs mb) (hbb : ∀ z : Str, z ≠ "__name__" → mb z = bootBuiltins z)
    (hlim : s.heap.NoLimit) (hroom : A.depth + 1 < recursionLimit) (hM : Msg me f v (scope1 f)) (hcdp : (c.endLine == d.line) = true) (hF : Fld f) (noN : findIn K (.ref C) f = some none)
    (hq : ∀ h' tk x dx, Own1 s.heap h' x C dx f v → R (.ok (.ret (.ref x))) { s with heap := h', toks := tk }) : codeAny (model prog w) A (.call (.ref C) ⟨[v], []⟩) R s := by
  obtain ⟨n, q, N, bs, bm, sn, sub, ab, col, dd, k0, k1, k2, k3, k5, hC, hbm⟩ := T.cls
  obtain ⟨hp, g, dr, tk, os⟩ := s
  have k : ∀ b o, hp.get? b = some o → ((hp.push (kdv_tup [v])).push (excO C hp.objs.size)).get? b = some o := fun b o z => Heap.get?_push_of_some _ (Heap.get?_push_of_some _ z)
  have hget : ((hp.push (kdv_tup [v])).push (excO C hp.objs.size)).get? (hp.objs.size + 1) = some (excO C hp.objs.size) := by heap_get
  refine call_own PySem.F.excBase_ValueError (fun Y => refsVE_contains Y bm hbm) (X _ _ hC) (looks_findIn X T.iC) (fun self => bind_fn X self T.tC) (size1 v) ?_
  refine init1 (mb := mb) (s := ⟨(hp.push (kdv_tup [v])).push (excO C hp.objs.size), g, dr, tk, os⟩) T (X.keeps k) (hg.keeps k) (hb.keeps k) hbb (hlim.keeps k) hget (fresh_of X (Nat.le_succ _)) hroom hM hcdp hF noN fun h' tk' dx Z => ?_
  have old : ∀ b o, hp.get? b = some o → h'.get? b = some o := fun b o z => Z.keep b o (Nat.ne_of_lt (Nat.lt_succ_of_lt (Heap.lt_size z))) (k b o z)
  have z : hp.objs.size + 1 + 1 ≤ dx := by
    have q := Z.big
    rw [Heap.size_push, Heap.size_push] at q
    exact q
  obtain ⟨t1, ho⟩ := Z.obj
  exact ⟨rfl, hq h' tk' (hp.objs.size + 1) dx ⟨old, Nat.le_succ _, ⟨_, _, ho, rfl, rfl, rfl, rfl, rfl⟩, Nat.le_trans (Nat.le_trans (Nat.le_succ _) (Nat.le_succ _)) z, Z.ne, Z.ns⟩⟩
theorem made0 {p1 a b c d e : Pos} {me : Expr}
    (T : Cls1 prog K mg nm C fI (args0 p1) [supS me a b c d e] scope0) (X : K.In s.heap) (hg : s.heap.Ns mainGlobals mg) (hb : s.heap.Ns builtinsNs mb) (hbb : ∀ z : Str, z ≠ "__name__" → mb z = bootBuiltins z)
    (hlim : s.heap.NoLimit) (hroom : A.depth + 1 < recursionLimit) (hM : ∀ x : Addr, Msg me "self" (.ref x) scope0) (hcdp : (c.endLine == d.line) = true)
    (hq : ∀ h' tk x, Own0 s.heap h' x C → R (.ok (.ret (.ref x))) { s with heap := h', toks := tk }) : codeAny (model prog w) A (.call (.ref C) ⟨[], []⟩) R s := by
  obtain ⟨n, q, N, bs, bm, sn, sub, ab, col, dd, k0, k1, k2, k3, k5, hC, hbm⟩ := T.cls
  obtain ⟨hp, g, dr, tk, os⟩ := s
  have k : ∀ b o, hp.get? b = some o → ((hp.push (kdv_tup [])).push (excO C hp.objs.size)).get? b = some o := fun b o z => Heap.get?_push_of_some _ (Heap.get?_push_of_some _ z)
  have hget : ((hp.push (kdv_tup [])).push (excO C hp.objs.size)).get? (hp.objs.size + 1) = some (excO C hp.objs.size) := by heap_get
  refine call_own PySem.F.excBase_ValueError (fun Y => refsVE_contains Y bm hbm) (X _ _ hC) (looks_findIn X T.iC) (fun self => bind_fn X self T.tC) size0 ?_
  refine init0 (mb := mb) (s := ⟨(hp.push (kdv_tup [])).push (excO C hp.objs.size), g, dr, tk, os⟩) T (X.keeps k) (hg.keeps k) (hb.keeps k) hbb (hlim.keeps k) hget (fresh_of X (Nat.le_succ _)) hroom (hM _) hcdp fun h' tk' Z => ?_
  have old : ∀ b o, hp.get? b = some o → h'.get? b = some o := fun b o z => Z.keep b o (Nat.ne_of_lt (Nat.lt_succ_of_lt (Heap.lt_size z))) (k b o z)
  obtain ⟨t1, ho⟩ := Z.obj
  exact ⟨rfl, hq h' tk' (hp.objs.size + 1) ⟨old, Nat.le_succ _, ⟨_, _, ho, rfl, rfl, rfl, rfl, rfl⟩⟩⟩
end

/-! ### the texts of the messages -/
section
variable {f : Str} {sc : Scope}
theorem text_const {prog : Program} {w : World} {A : Around} {E : Value → Shared → Prop} {env : Env} {s : Shared} {Q : Value → Shared → Prop} {c : Str} {k : Nat} {p : Pos} (h : Q (.str c s.toks) { s with toks := s.toks + 1 }) : wpAny (model prog w) A (eval (.Constant (.str c) k p) env) Q E s := wpAny_Constant_str h
theorem msg_c {x : Str} {v : Value} {c : Str} {k : Nat} {p : Pos} : Msg (.Constant (.str c) k p) x v sc where
  call := fun env a b c' d e => ⟨_, call_eq e rfl⟩
  star := fun env => rfl
  swap := fun _ _ _ _ _ _ => rfl
  text := fun prog w A E env s m Q he hn hv h => wpAny_Constant_str (h c s.toks _)
/-- one part behind another, the field in {..!r} or {..}: a text | an int -/
theorem part_s {prog : Program} {w : World} {A : Around} {E : Value → Shared → Prop} {env : Env} {s : Shared} {m : Str → Option Value} {y : Str} {t : Tok} {p q : Pos} {Q : Value → Shared → Prop} (hF : sc.names.lookup f = some .local) (hk : sc.kind = .function) (hd : (f == ("__debug__" : Str)) = false) (he : env.scope = sc)
    (hn : s.heap.Ns env.locals m) (hv : m f = some (.str y t)) (hz : y.length ≤ sizeLine) (h : ∀ tk n, Q (.str y tk) { s with toks := n }) : wpAny (model prog w) A (eval (.FormattedValue (.Name f p) (-1) none q) env) Q E s := by
  refine wpAny_FormattedValue_plain (ldL hn hv (by rw [he]; exact hk) (by show env.scope.names.lookup f = _; rw [he]; exact hF) hd ?_)
  exact wpAny_formatField_str (h _ s.toks) (h _ _) hz
theorem part_r {prog : Program} {w : World} {A : Around} {E : Value → Shared → Prop} {env : Env} {s : Shared} {m : Str → Option Value} {y : Str} {t : Tok} {p q : Pos} {Q : Value → Shared → Prop} (hF : sc.names.lookup f = some .local) (hk : sc.kind = .function) (hd : (f == ("__debug__" : Str)) = false) (he : env.scope = sc)
    (hn : s.heap.Ns env.locals m) (hv : m f = some (.str y t)) (hz : (reprText y).length ≤ sizeLine) (h : ∀ tk n, Q (.str (reprText y) tk) { s with toks := n }) : wpAny (model prog w) A (eval (.FormattedValue (.Name f p) 114 none q) env) Q E s := by
  refine wpAny_FormattedValue_repr (ldL hn hv (by rw [he]; exact hk) (by show env.scope.names.lookup f = _; rw [he]; exact hF) hd ?_)
  exact pyReprObj_str (wpAny_formatField_str (h _ _) (h _ _) hz) hz
theorem part_i {prog : Program} {w : World} {A : Around} {E : Value → Shared → Prop} {env : Env} {s : Shared} {m : Str → Option Value} {i : Int} {t : Tok} {p q : Pos} {Q : Value → Shared → Prop} (hF : sc.names.lookup f = some .local) (hk : sc.kind = .function) (hd : (f == ("__debug__" : Str)) = false) (he : env.scope = sc)
    (hn : s.heap.Ns env.locals m) (hv : m f = some (.int i t)) (hz : i.natAbs.log2 < 1920) (h : ∀ tk n, Q (.str (toString i) tk) { s with toks := n }) : wpAny (model prog w) A (eval (.FormattedValue (.Name f p) (-1) none q) env) Q E s := by
  refine wpAny_FormattedValue_plain (ldL hn hv (by rw [he]; exact hk) (by show env.scope.names.lookup f = _; rw [he]; exact hF) hd ?_)
  exact wpAny_formatField_int hz (h _ _)
theorem app_le {a b : Str} {n m : Nat} (h1 : a.length ≤ n) (h2 : b.length ≤ m) : (a ++ b).length ≤ n + m := by
  have e : (a ++ b).length = a.length + b.length := Array.size_append ..
  omega
/-- f'c{f!r}' of a text -/
theorem msg_cr {y : Str} {t : Tok} {c : Str} {p q p1 p2 : Pos} {k : Nat} (hF : Fld f) (hc : c.length ≤ 1000) (hz : (reprText y).length ≤ 1000) : Msg (.JoinedStr [.Constant (.str c) k p1, .FormattedValue (.Name f p) 114 none q] p2) f (.str y t) (scope1 f) where
  call := fun env a b c' d e => ⟨_, call_eq e rfl⟩
  star := fun env => rfl
  swap := fun _ _ _ _ _ _ => rfl
  text := fun prog w A E env s m Q he hn hv h => by
    have z0 : (Str.empty ++ c).length ≤ 0 + 1000 := app_le (Nat.le_refl _) hc
    have z1 : (Str.empty ++ c ++ reprText y).length ≤ 0 + 1000 + 1000 := app_le z0 hz
    have b0 : (2000 : Nat) ≤ sizeLine := by rw [sizeLine_eq]; decide
    refine wpAny_JoinedStr ?_
    refine wpAny_Constant_str ⟨c, _, rfl, Nat.le_trans z0 (Nat.le_trans (by decide) b0), ?_⟩
    refine part_r (sc := scope1 f) hF.kf rfl hF.dbg he (s := { s with toks := s.toks + 1 }) hn hv (Nat.le_trans hz (Nat.le_trans (by decide) b0)) fun tk n => ⟨_, _, rfl, Nat.le_trans z1 b0, ?_⟩
    exact ⟨Nat.le_trans z1 b0, h _ _ _⟩
/-- f'c{f}' of an int -/
theorem msg_ci {i : Int} {t : Tok} {c : Str} {p q p1 p2 : Pos} {k : Nat} (hF : Fld f) (hc : c.length ≤ 1000) (hz : i.natAbs.log2 < 1920) (hs : (toString i : Str).length ≤ 1000) : Msg (.JoinedStr [.Constant (.str c) k p1, .FormattedValue (.Name f p) (-1) none q] p2) f (.int i t) (scope1 f) where
  call := fun env a b c' d e => ⟨_, call_eq e rfl⟩
  star := fun env => rfl
  swap := fun _ _ _ _ _ _ => rfl
  text := fun prog w A E env s m Q he hn hv h => by
    have z0 : (Str.empty ++ c).length ≤ 0 + 1000 := app_le (Nat.le_refl _) hc
    have z1 : (Str.empty ++ c ++ (toString i : Str)).length ≤ 0 + 1000 + 1000 := app_le z0 hs
    have b0 : (2000 : Nat) ≤ sizeLine := by rw [sizeLine_eq]; decide
    refine wpAny_JoinedStr ?_
    refine wpAny_Constant_str ⟨c, _, rfl, Nat.le_trans z0 (Nat.le_trans (by decide) b0), ?_⟩
    refine part_i (sc := scope1 f) hF.kf rfl hF.dbg he (s := { s with toks := s.toks + 1 }) hn hv hz fun tk n => ⟨_, _, rfl, Nat.le_trans z1 b0, ?_⟩
    exact ⟨Nat.le_trans z1 b0, h _ _ _⟩
/-- f'{f}c' of a text -/
theorem msg_sc {y : Str} {t : Tok} {c : Str} {p q p1 p2 : Pos} {k : Nat} (hF : Fld f) (hc : c.length ≤ 1000) (hz : y.length ≤ 1000) : Msg (.JoinedStr [.FormattedValue (.Name f p) (-1) none q, .Constant (.str c) k p1] p2) f (.str y t) (scope1 f) where
  call := fun env a b c' d e => ⟨_, call_eq e rfl⟩
  star := fun env => rfl
  swap := fun _ _ _ _ _ _ => rfl
  text := fun prog w A E env s m Q he hn hv h => by
    have z0 : (Str.empty ++ y).length ≤ 0 + 1000 := app_le (Nat.le_refl _) hz
    have z1 : (Str.empty ++ y ++ c).length ≤ 0 + 1000 + 1000 := app_le z0 hc
    have b0 : (2000 : Nat) ≤ sizeLine := by rw [sizeLine_eq]; decide
    refine wpAny_JoinedStr ?_
    refine part_s (sc := scope1 f) hF.kf rfl hF.dbg he hn hv (Nat.le_trans hz (Nat.le_trans (by decide) b0)) fun tk n => ⟨_, _, rfl, Nat.le_trans z0 (Nat.le_trans (by decide) b0), ?_⟩
    refine wpAny_Constant_str ⟨c, _, rfl, Nat.le_trans z1 b0, ?_⟩
    exact ⟨Nat.le_trans z1 b0, h _ _ _⟩
end
end Er

namespace L2
open PySem PySem.Spec PyProof.Rows Er
/-- isinstance(e, c), e the error that the suite holds, with a dict of its own -/
def rIsF (K : PySem.W.Frag) (D a : Addr) (cls : Value) (dd : Option Addr) : List V → Hp → VK → Prop := fun xs H Q => cls = .ref D ∧ ∃ (c : V) (cv : Value) (b : Bool), xs = [.ref a, c] ∧ (∀ u, RelV c u → u = cv) ∧ (∀ dx, dd = some dx → ∃ fs, H dx = some (.xd fs)) ∧ PySem.W.kitOne K (.ref D) cv = some b ∧ Q (.bl b) H
theorem call_isF {X : Cx} {a D : Addr} {cls : Value} {dd : Option Addr} {oe : Obj} {pn : List (Addr × Obj)} (C : ExcC X.K D) (hz : Zc cls dd oe) (hf : ∃ vs, oe.data = .fields vs) : CallR (X.suite a ((a, oe) :: pn)) (.builtin "isinstance") (rIsF X.K D a cls dd) := by
  intro pins s σ H xs us Q I r h
  obtain ⟨ecls, c, cv, b, rfl, hcv, hdd, e, q⟩ := h
  subst ecls
  cases r with
  | cons rx rr =>
    cases rr with
    | cons rt rr =>
      cases rr
      cases rx
      have ec := hcv _ rt
      subst ec
      obtain ⟨hget, _⟩ := I.pin (a, oe) (List.mem_append.mpr (.inl List.mem_cons_self))
      obtain ⟨vs, hv⟩ := hf
      have hcl : (PySem.W.clsIn X.K D).isSome = true := by
        obtain ⟨cd, hc, _⟩ := PySem.W.any_some C.hd
        rw [hc]
        rfl
      have J : ∃ od, PySem.W.InstAt s.heap a oe D od := by
        obtain ⟨oc, od, oda, osl⟩ := oe
        obtain ⟨h1, h2⟩ := hz
        dsimp only at h1 h2 hv
        subst h1 h2 hv
        cases od with
        | none => exact ⟨none, hget, rfl, rfl, trivial⟩
        | some dx =>
          obtain ⟨fs, hx⟩ := hdd dx rfl
          have ok : ObjOk X.prog X.w H s.heap dx (.xd fs) := I.hok dx _ hx
          obtain ⟨mA, hns, hr⟩ := ok
          obtain ⟨od, ho, hl⟩ := lookIn_ns hns
          exact ⟨some od, hget, rfl, rfl, ho⟩
      obtain ⟨od, J⟩ := J
      exact PySem.W.kia_one (PySem.W.kitx_exc hcl C.hg C.hk C.hs C.ha C.hn C.ht C.hm) I.kIn J e (fun z => nomatch z) fun tk => ⟨.bl b, H, I.kept (t' := tk) fun _ _ z => z, rfl, q⟩
theorem relO_f1 {v : V} {v' : Value} (r : RelV v v') (f g : Str) : RelO (List.lookup g [(f, v)]) (if g = f then some v' else none) := by
  by_cases hw : g = f
  · rw [if_pos hw, hw]
    have q : List.lookup f [(f, v)] = some v := by simp [List.lookup]
    rw [q]
    exact r
  · rw [if_neg hw]
    have qw : (g == f) = false := by simpa using hw
    have q2 : List.lookup g [(f, v)] = none := by simp [List.lookup, qw]
    rw [q2]
    trivial
section
variable {X : Cx} {C fI : Addr} {nm f : Str} {me : Expr} {p1 p2 a b c d e a' b' c' d' : Pos}
def tMk1 (C : Addr) (f : Str) (me : Expr) (ta : TA) : St → Hp → XK → Prop := fun σ H Q => ta σ H fun vs H1 => ∃ v, vs = [v] ∧ (∀ u, RelV v u → Msg me f u (scope1 f)) ∧ ∀ d, H1 d = none → Q (.ref C) (some d) (upd H1 d (.xd [(f, v)]))
theorem pmk1 {x : Expr} {ta : TA} {p pos : Pos} {k : Nat} (T : Cls1 X.prog X.K X.mg nm C fI (args1 f p1 p2) [supS me a b c d e, keepS f a' b' c' d'] (scope1 f)) (hcdp : (c.endLine == d.line) = true) (hF : Fld f) (noN : PySem.W.findIn X.K (.ref C) f = some none) (hr : Room k X.A) (ha : PA X [x] ta) (hg : Gl X nm) (hdb : (nm == ("__debug__" : Str)) = false)
    (he : starEach (x :: []) X.env = (false, eval x X.env) :: starEach [] X.env := by rfl) (hpl : (backTo pos (starEach [] X.env)).any (·.1) = false := by rfl) :
    L2N.PMk X (.Call (.Name nm p) [x] [] pos) (tMk1 C f me ta) := by
  intro pins s σ H Q I h
  refine wpAny_Call_Name_kw (ld_glob I hg T.gC ?_ hdb)
  refine PySem.W.callWith_K (h₀ := X.base) I.ok.mod.kin T.kC (thn (ha.run pos pins s σ H _ I h) fun us s1 hh => ?_) he hpl
  obtain ⟨vs, H1, I1, r1, v, ev, hM, q1⟩ := hh
  subst ev
  refine ⟨I1.kIn, ?_⟩
  cases r1 with
  | cons rv rn =>
    rename_i v' us'
    cases rn
    show wpAny _ _ (call (.ref C) [v']) _ _ _
    have hlim := I1.nolimit
    obtain ⟨mb, hb1, hb2⟩ := I1.mod.blt
    have hgl := I1.mod.glob.keeps I1.bk
    have hbl := hb1.keeps I1.bk
    obtain ⟨hp, g, dr, tk, os⟩ := s1
    refine wpAny_call (made1 (mb := mb) T I1.kIn hgl hbl hb2 hlim (by have := hr.dp; omega) (hM v' rv) hcdp hF noN fun h' tk' e d M => ?_)
    show L2N.MkP X pins σ Q (.ref e) ⟨h', g, dr, tk', os⟩
    obtain ⟨oe, fv, hoe, hc, hd, hdat, h1, h2⟩ := M.obj
    have hz : L2N.Zn (.ref C) _ oe := ⟨hc, hd, fun vs' e' => by
      rw [hdat] at e'
      cases e'
      exact h2⟩
    have hns := M.ns
    obtain ⟨G', g1, g2⟩ := restrict h' fun b => decide (b ≠ e)
    have gk : ∀ b, b ≠ e → G'.get? b = h'.get? b := fun b hb => g1 b (decide_eq_true hb)
    have ge : G'.get? e = none := g2 e (by simp)
    have old : ∀ b o, hp.get? b = some o → G'.get? b = some o := fun b o q => (gk b (Nat.ne_of_lt (Nat.lt_of_lt_of_le (Heap.lt_size q) M.new))).trans (M.keep b o q)
    have ob : ObjOk X.prog X.w (upd H1 d (.xd [(f, v)])) G' d (.xd [(f, v)]) :=
      ⟨_, hns.at (fun o q => (gk d M.ne).trans q), fun g => relO_f1 rv f g⟩
    have J : Inv X pins σ (upd H1 d (.xd [(f, v)])) ⟨G', g, dr, tk', os⟩ := I1.laid (t' := tk') old M.big ob
    refine ⟨e, oe, fv, ⟨G', g, dr, tk', os⟩, _, .ref C, some d, rfl, J, fun b o q => ?_, ge, hoe, hz, hdat, h1, ?_, rfl, I1.bare, raises_own T.exC T.tyC, q1 d (I1.hok.fresh M.big)⟩
    · by_cases hb : b = e
      · have q' : G'.get? b = some o := q
        rw [hb, ge] at q'
        cases q'
      · exact (gk b hb).symm.trans q
    · rw [upd_ne (Ne.symm M.ne)]
      exact I1.hok.fresh M.new
def tMk0 (C : Addr) : St → Hp → XK → Prop := fun σ H Q => Q (.ref C) none H
theorem pmk0 {p pos : Pos} {k : Nat} (T : Cls1 X.prog X.K X.mg nm C fI (args0 p1) [supS me a b c d e] scope0) (hM : ∀ x : Addr, Msg me "self" (.ref x) scope0) (hcdp : (c.endLine == d.line) = true) (hr : Room k X.A) (hg : Gl X nm) (hdb : (nm == ("__debug__" : Str)) = false) :
    L2N.PMk X (.Call (.Name nm p) [] [] pos) (tMk0 C) := by
  intro pins s σ H Q I h
  refine wpAny_Call_Name_kw (ld_glob I hg T.gC ?_ hdb)
  refine PySem.W.callWith_K0 I.kIn T.kC ?_
  show wpAny _ _ (call (.ref C) []) _ _ _
  have hlim := I.nolimit
  obtain ⟨mb, hb1, hb2⟩ := I.mod.blt
  have hgl := I.mod.glob.keeps I.bk
  have hbl := hb1.keeps I.bk
  obtain ⟨hp, g, dr, tk, os⟩ := s
  refine wpAny_call (made0 (mb := mb) T I.kIn hgl hbl hb2 hlim (by have := hr.dp; omega) hM hcdp fun h' tk' e M => ?_)
  show L2N.MkP X pins σ Q (.ref e) ⟨h', g, dr, tk', os⟩
  obtain ⟨oe, fv, hoe, hc, hd, hdat, h1, h2⟩ := M.obj
  have hz : L2N.Zn (.ref C) _ oe := ⟨hc, hd, fun vs' e' => by
    rw [hdat] at e'
    cases e'
    exact h2⟩
  exact ⟨e, oe, fv, ⟨hp, g, dr, tk, os⟩, H, .ref C, none, rfl, I, M.keep, (by
    cases z : hp.get? e with
    | none => rfl
    | some o => exact absurd (Nat.lt_of_lt_of_le (Heap.lt_size z) M.new) (Nat.lt_irrefl _)), hoe, hz, hdat, h1, I.hok.fresh M.new, rfl, I.bare, raises_own T.exC T.tyC, h⟩
/-- e.f, e the error that the suite holds (at a0; its class cls, its dict dd) -/
def tByF (C : Addr) (a0 : Addr) (cls : Value) (dd : Option Addr) (f : Str) (te : TE) : TE := fun σ H Q => te σ H fun x H1 => x = .ref a0 ∧ cls = .ref C ∧ ∃ (dx : Addr) (v : V), dd = some dx ∧ H1 dx = some (.xd [(f, v)]) ∧ Q v H1
theorem pe_byF {pars : Arguments} {body : List Stmt} {sc : Scope} {a0 : Addr} {oe : Obj} {cls : Value} {dd : Option Addr} {pn : List (Addr × Obj)} {x : Expr} {te : TE} {pos : Pos} (T : Cls1 X.prog X.K X.mg nm C fI pars body sc) (noN : PySem.W.findIn X.K (.ref C) f = some none) (hz : Zc cls dd oe) (hf : ∃ vs, oe.data = .fields vs) (he : PE (X.suite a0 ((a0, oe) :: pn)) x te)
    (hb : attributeBase x f X.env (eval x X.env) = eval x X.env := by rfl) :
    PE (X.suite a0 ((a0, oe) :: pn)) (.Attribute x f pos) (tByF C a0 cls dd f te) := by
  refine ⟨fun pins s σ H Q I h => ?_⟩
  refine attr_of hb (thn (he.run pins s σ H _ I h) fun u s1 hh => ?_)
  obtain ⟨x, H1, I1, rx, ex, ec, dx, v, ed, ea, q⟩ := hh
  subst ex
  obtain rfl : u = Value.ref a0 := rx
  subst ec
  subst ed
  obtain ⟨ha, _⟩ := I1.pin (a0, oe) (List.mem_append_left _ List.mem_cons_self)
  obtain ⟨vs, hd⟩ := hf
  have hx : ObjOk X.prog X.w H1 s1.heap dx (.xd [(f, v)]) := I1.hok dx _ ea
  obtain ⟨mA, hns, hr⟩ := hx
  obtain ⟨od, ho, hl⟩ := lookIn_ns hns
  have l : List.lookup f [(f, v)] = some v := by simp [List.lookup]
  obtain ⟨u, hu, ru⟩ := RelO.some_of (v := v) (o := mA f) (by rw [← l]; exact hr f)
  have J : PySem.W.InstAt s1.heap a0 oe C (some od) := ⟨ha, hz.1, by unfold PySem.W.notCls; rw [hd] <;> rfl, by rw [hz.2]; exact ho⟩
  exact HandSPX.exc_get I1.kIn J T.ga T.gg T.exC (PySem.W.findObj_own T.hdC noN rfl (by rw [hl, hu])) (handed_of ru) ⟨v, H1, I1.tok _, ru, q⟩
end

/-! ### defs that let out errors whose context is None; defs called within an except suite -/
section
variable {P : Program} {w : World} {K : PySem.W.Frag} {mg : Str → Option Value} {base : Heap}
theorem Fun.okN {x qual : Str} {st : Stmt} {f : Addr} {fd : FuncData} {N ps : List Str} {k : Nat} {sp : Sp} (F : Fun K x qual st f fd) (S : FnScope N ps (defScope st)) (len : ∀ vs H Q E, sp vs H Q E → vs.length = ps.length)
    (hbody : ∀ (cdv : Value) (A : Around) (outer : List Env) (s : Shared) (H : Hp) (vs : List V) (Q : VK) (E : XK), Room k (A.deeper (envOfC qual (defScope st) s.heap.objs.size f cdv)) → sp vs H Q E →
      ∃ t, PSs (cxOf (L2N.CX P w) P w K mg base N qual (defScope st) f cdv A outer s H E) (defBody st) t ∧ t { nx := fun _ H' => Q .non H', rt := Q } (start N vs) H) : FnOk P w K mg base (L2N.CX P w) (k + 1) f fd ps sp := by
  obtain ⟨oc, od, kV, doc, pm, an, cdv, ct, osl, rfl, lk, hcd⟩ := F.ex
  exact fn_of lk hcd S len fun A outer s H vs Q E hr hsp => hbody cdv A outer s H vs Q E hr hsp
theorem Fun.okH {CX : CXT} {x qual : Str} {st : Stmt} {f : Addr} {fd : FuncData} {N ps : List Str} {k : Nat} {sp : Sp} (F : Fun K x qual st f fd) (S : FnScope N ps (defScope st)) (len : ∀ vs H Q E, sp vs H Q E → vs.length = ps.length)
    (hbody : ∀ (cdv : Value) (A : Around) (outer : List Env) (s : Shared) (H : Hp) (vs : List V) (Q : VK) (E : XK) (p : Addr × Obj), L2H.Hot1 A p → L2H.RoomH k (A.deeper (envOfC qual (defScope st) s.heap.objs.size f cdv)) → sp vs H Q E →
      ∃ t, PSs (L2H.cxH CX P w K mg base N qual (defScope st) f cdv A outer s H E p) (defBody st) t ∧ t { nx := fun _ H' => Q .non H', rt := Q } (start N vs) H) : L2H.FnH P w K mg base CX (k + 1) f fd ps sp := by
  obtain ⟨oc, od, kV, doc, pm, an, cdv, ct, osl, rfl, lk, hcd⟩ := F.ex
  exact L2H.fn_ofH lk hcd S len fun A outer s H vs Q E p hot hr hsp => hbody cdv A outer s H vs Q E p hot hr hsp
end
section
variable {X : Cx}
/-- of a callee that raises nothing here -/
theorem passN : Passes (L2N.CX X.prog X.w) X E0 := fun _ _ _ _ _ _ _ h => by
  obtain ⟨_, _, _, _, _, _, _, _, _, _, _, _, z⟩ := h
  exact z.elim
theorem takes0N : L2N.Takes X (fun _ _ _ _ => False) := fun _ _ x => by
  obtain ⟨_, _, _, _, _, _, _, _, _, _, _, _, _, _, _, _, z⟩ := x
  exact z.elim
theorem pass0H {E : St → XK} : ∀ σ, PassesAt CX0 X σ (E σ) := fun _ _ _ _ _ _ _ h => h.elim
theorem hot_suite {a : Addr} {oe : Obj} {cls : Value} {d : Option Addr} {pn : List (Addr × Obj)} (hz : L2N.Zn cls d oe) (hf : ∃ vs, oe.data = .fields vs) : L2H.HotC (X.suite a ((a, oe) :: pn)) := by
  obtain ⟨vs, hv⟩ := hf
  exact ⟨(a, oe), ⟨rfl, vs, hv, hz.2.2 vs hv⟩, List.mem_cons_self⟩
theorem room_suite {k : Nat} {a : Addr} {pn : List (Addr × Obj)} (r : Room k X.A) : L2H.RoomH k (X.suite a pn).A := ⟨r.dp, r.un⟩
end
end L2

/-! Own objects: str(o) by the class's own __str__; // by any divisor other than zero; errors of a call in a try body whatever the slots hold. -/
namespace L2
open PySem PySem.Spec PyProof.Rows Er
section
variable {X : Cx}
/-- the same place, n units further in -/
theorem Inv.in1 {pins : List (Addr × Obj)} {σ : St} {H : Hp} {s : Shared} (I : Inv X pins σ H s) (n : Nat) : Inv { X with A := { X.A with units := n } } pins σ H s :=
  ⟨⟨I.ok.mod, I.ok.kind, I.ok.glob, I.ok.blt, I.ok.above, I.ok.inj, I.ok.has, I.ok.cab, I.ok.hd, I.ok.frames, I.ok.stk, I.ok.exf, I.ok.bs, I.ok.bsz, I.ok.noex, I.ok.exfs, I.ok.funs, I.ok.frf⟩,
    I.os, I.bare, I.base, I.loc, I.cell, I.free, I.freeC, I.pin, I.hok, I.len⟩
theorem Inv.out1 {pins : List (Addr × Obj)} {σ : St} {H : Hp} {s : Shared} {n : Nat} (I : Inv { X with A := { X.A with units := n } } pins σ H s) : Inv X pins σ H s :=
  ⟨⟨I.ok.mod, I.ok.kind, I.ok.glob, I.ok.blt, I.ok.above, I.ok.inj, I.ok.has, I.ok.cab, I.ok.hd, I.ok.frames, I.ok.stk, I.ok.exf, I.ok.bs, I.ok.bsz, I.ok.noex, I.ok.exfs, I.ok.funs, I.ok.frf⟩,
    I.os, I.bare, I.base, I.loc, I.cell, I.free, I.freeC, I.pin, I.hok, I.len⟩
theorem inst_of {pins : List (Addr × Obj)} {σ : St} {H : Hp} {s : Shared} (I : Inv X pins σ H s) {a C dx : Addr} {fs : List (Str × V)} (h : H a = some (.ins C dx fs)) : ∃ ox od, PySem.W.InstAt s.heap a ox C od := by
  obtain ⟨mA, O, _, _, _, _⟩ := ins_get I.hok h
  obtain ⟨od, ho, _⟩ := lookIn_ns O.ns
  exact ⟨_, some od, O.obj, rfl, rfl, ho⟩
/-- str(o), o of the class C with its own __str__ -/
def rStrO (C : Addr) (sp : Sp) (E : XK) : List V → Hp → VK → Prop := fun xs H Q => ∃ a dx fs, xs = [.ref a] ∧ H a = some (.ins C dx fs) ∧ sp [.ref a] H (fun v H' => ∃ z, v = .str z ∧ Q v H') E
theorem call_strO {CX : CXT} {k : Nat} {C g : Addr} {fd : FuncData} {sp : Sp} {E : XK} (hf : PySem.W.findIn X.K (.ref C) "__str__" = some (some (.ref g))) (hi : PySem.W.isFn X.K (.ref g) = true)
    (F : FnOk X.prog X.w X.K X.mg X.base CX k g fd ["self"] sp) (hr : Room (k + 1) X.A) (b : Binds X.K fd ["self"] []) (hx : Passes CX X E) : CallR X (.type "str") (rStrO C sp E) := by
  intro pins s σ H xs us Q I r h
  obtain ⟨a, dx, fs, rfl, ha, h⟩ := h
  cases r with
  | cons rx rr =>
    cases rr
    cases rx
    obtain ⟨ox, od, J⟩ := inst_of I ha
    have hu := hr.un
    refine PySem.W.kso_call (by show X.A.units + 1 + 1 < cLine; omega) I.kIn J hf hi ?_
    have hr' : Room k ({ X.A with units := X.A.units + 1 + 1 } : Around) := ⟨hr.hd, by have := hr.dp; show X.A.depth + 3 * k + 5 < _; omega, by show X.A.units + 1 + 1 + 16 * k + 200 < cLine; omega⟩
    have z := run_fn (X := { X with A := { X.A with units := X.A.units + 1 + 1 } }) (CX := CX) (Q := fun v H' => ∃ z, v = .str z ∧ Q v H') (vs := [.ref a]) (us := [.ref a]) F hr' b .nil (fun pins σ H s e s' I' h' => hx pins σ H s e s' I'.out1 h') (I.in1 _) (.cons rfl .nil) h
    refine thn z fun u s1 hh => ?_
    obtain ⟨v, H1, I1, rv, y, ev, q⟩ := hh
    subst ev
    obtain ⟨tk, rfl⟩ := rv
    exact ⟨.str y, H1, I1.out1, ⟨tk, rfl⟩, q⟩
/-- i // j, j any int other than zero -/
def CDivX : Int → Int → Prop := fun _ j => j ≠ 0 ∧ j.natAbs.log2 < 9000
theorem op_fdivX : OpR X (binaryOp .FloorDiv) (rI CDivX fun i j => .int (i.fdiv j)) := by
  intro pins s σ H x y v u Q I rv ru h
  obtain ⟨i, j, rfl, rfl, ⟨h0, h9⟩, q⟩ := h
  obtain ⟨_, rfl⟩ := rv
  obtain ⟨_, rfl⟩ := ru
  exact floordiv_int (Q := EP X pins σ Q) h0 ⟨V.int (i.fdiv j), H, I.tok _, ⟨_, rfl⟩, q⟩ (.inl (PyProof.noPylong_of_log2 h9))
theorem FunD.bindsF {K : PySem.W.Frag} {x qual : Str} {params : Arguments} {body : List Stmt} {scope : Scope} {dvs : List V} {kws : List (Str × V)} {f : Addr} {fd : FuncData} {ps : List Str} (F : FunD K x qual params body scope dvs kws f fd) (h : dvs ≠ [])
    (hb : ∀ (T : Addr) (kV doc pm : Value) (an : Option Addr) (cdv ct : Value) (us its : List Value), us.length = ps.length → its.length = dvs.length → ∃ k, bindArgs (PySem.W.fnOf x qual params body scope (Value.ref T) kV doc pm an cdv ct) { pos := us } = seqItems? (Value.ref T) >>= k ∧ k (some its.toArray) = pure (ps.zip us)) : Binds K fd ps [] := by
  obtain ⟨ds, hv, hd⟩ := F.binds1 (ps := ps) ps.length dvs.length h (by omega) fun T kV doc pm an cdv ct us its hu hi => by
    have z := hb T kV doc pm an cdv ct us its hu hi
    rw [show List.drop dvs.length its = [] from List.drop_eq_nil_of_le (by omega), List.append_nil]
    exact z
  rw [List.drop_eq_nil_of_le (Nat.le_refl _)] at hv
  cases hv
  exact hd
/-- an error of a call in a try body, whatever the slots hold then -/
theorem passLen {W : WX} (tk : L2N.Takes X W) : Passes (L2N.CX X.prog X.w) X (fun cls d H => ∀ σ : St, σ.length = X.N.length → W cls d σ H) := fun pins σ H s e s' I c => by
  refine L2N.passAt tk σ pins H s e s' I ?_
  obtain ⟨a, B, H', cls, d, h1, h2, h3, h4, h5, h6, h7, h8⟩ := c
  exact ⟨a, B, H', cls, d, h1, h2, h3, h4, h5, h6, h7, h8 σ I.len⟩
end
end L2

/-! Own operators: o + o, o + 3, 3 + o, o += .., -o, o < o, .. by the class's own methods. -/
namespace L2
open PySem PySem.Spec PyProof.Rows Er
/-- an int's own slot declines an own object -/
theorem declines {x C dx : Addr} {i : Int} {t : Tok} {name : String} {f : Int → Int → Sem PySem.Fin} : Meets (Builtin.Int.intBinary name f false { pos := [.int i t, .ref x] }) (fun A R s => s.heap.get? x = some (PySem.W.instObj C dx) ∧ R (.ok (.ret .notImplemented)) s) := by
  intro prog w A R s ⟨h, r⟩
  show wpAny _ _ (slotArgs name 1 { pos := [.int i t, .ref x] } >>= _) _ _ _
  refine wpAny_bind (wpAny_pure (a := (Value.int i t, [Value.ref x])) ?_)
  refine wpAny_bind ?_
  refine wpAny_bind (wpAny_pure (a := some i) ?_)
  refine wpAny_pure ?_
  refine wpAny_bind ?_
  refine wpAny_bind (wpAny_load h ?_)
  refine wpAny_pure ?_
  refine wpAny_bind (wpAny_rule ?_)
  exact wpAny_pure r
section
variable {prog : Program} {w : World} {A : Around} {E : Value → Shared → Prop} {s : Shared} {K : PySem.W.Frag} {x C dx f g : Addr} {ox : Obj} {od : Option Obj} {Q : Value → Shared → Prop} {i : Int} {t : Tok}
/-- the class at C stands right above object -/
def mro2 (K : PySem.W.Frag) (C : Addr) : Bool := (PySem.W.clsIn K C).any fun cd => cd.mro == [Value.ref C, Value.type "object"]
theorem mro2_cls {K : PySem.W.Frag} {C : Addr} (h : mro2 K C = true) : ∃ cd, PySem.W.clsIn K C = some cd ∧ cd.mro = [Value.ref C, Value.type "object"] := by
  unfold mro2 at h
  cases e : PySem.W.clsIn K C with
  | none =>
    rw [e] at h
    cases h
  | some cd =>
    rw [e] at h
    exact ⟨cd, rfl, eq_of_beq h⟩
/-- what the written part says of an operator nm with the class's own two methods, f on the left and g on the right -/
structure ROp (K : PySem.W.Frag) (C f g : Addr) (nm : String) : Prop where
  cls : mro2 K C = true
  l : PySem.W.findIn K (.ref C) (dunder nm) = some (some (.ref f))
  lf : PySem.W.isFn K (.ref f) = true
  r : PySem.W.findIn K (.ref C) (dunderR nm) = some (some (.ref g))
  fn : PySem.W.isFn K (.ref g) = true
  kit : PySem.W.kitCls K (.ref C) (.type "int") = some false
  kit2 : PySem.W.kitCls K (.type "int") (.ref C) = some false
  no : PySem.W.findIn K (.ref C) (dunderI nm) = some none
theorem bin1R {nm id : String} {B : Builtin} (R : ROp K C f g nm) (hs : Slot "int" (dunder nm) id) (he : entryFor table id = some B) (ha : argsOk id { pos := [.int i t, .ref x] })
    (hm : Meets (B { pos := [.int i t, .ref x] }) (fun A R s => s.heap.get? x = some (PySem.W.instObj C dx) ∧ R (.ok (.ret .notImplemented)) s))
    (hf : fillsNumberSlot (.type "int") nm = pure true) (X : K.In s.heap) (J : PySem.W.InstAt s.heap x (PySem.W.instObj C dx) C od)
    (h : wpAny (model prog w) A (call (.ref g) [.ref x, .int i t]) (PySem.W.CmpBack Q) E s) : wpAny (model prog w) A (binaryOp1 nm (.int i t) (.ref x)) (fun r s' => ∃ v, r = some v ∧ Q v s') E s := by
  obtain ⟨cd, hc, hmro⟩ := mro2_cls R.cls
  have hfl := R.l
  unfold binaryOp1
  refine wpAny_bind (wpAny_pure (a := Value.type "int") ?_)
  refine wpAny_bind (J.type _ _ _ _ (fun _ _ z => z) ?_)
  refine wpAny_bind ?_
  rw [hf]
  refine wpAny_pure ?_
  refine wpAny_bind (PySem.W.fills_K X hc hmro hfl _ _ _ _ (fun _ _ z => z) ?_)
  refine wpAny_bind ((PySem.W.kit_cls X R.kit).2.2 _ _ _ _ (fun _ _ z => z) ?_)
  refine wpAny_bind (wpAny_pure (a := false) ?_)
  refine wpAny_bind (wpAny_tryMethod_declines (T := "int") rfl hs (call_meets hs rfl he ha hm ⟨J.at_, ?_⟩))
  refine ⟨rfl, ?_⟩
  refine wpAny_bind (wpAny_mono (PySem.W.ksp_try X J R.r R.fn h) ?_ (fun _ _ z => z))
  rintro r s' ⟨v, rfl, q⟩
  refine wpAny_bind (wpAny_rule ?_)
  exact wpAny_pure ⟨v, rfl, q⟩
theorem bin1L {nm : String} {y : Addr} {oy : Obj} {ody : Option Obj} (R : ROp K C f g nm) (X : K.In s.heap) (J : PySem.W.InstAt s.heap x ox C od) (J2 : PySem.W.InstAt s.heap y oy C ody)
    (h : wpAny (model prog w) A (call (.ref f) [.ref x, .ref y]) (PySem.W.CmpBack Q) E s) : wpAny (model prog w) A (binaryOp1 nm (.ref x) (.ref y)) (fun r s' => ∃ v, r = some v ∧ Q v s') E s := by
  obtain ⟨cd, hc, hmro⟩ := mro2_cls R.cls
  unfold binaryOp1
  refine wpAny_bind (J.type _ _ _ _ (fun _ _ z => z) ?_)
  refine wpAny_bind (J2.type _ _ _ _ (fun _ _ z => z) ?_)
  refine wpAny_bind (PySem.W.fills_K X hc hmro R.l _ _ _ _ (fun _ _ z => z) ?_)
  simp only [beq_self_eq_true, if_true]
  refine wpAny_bind (wpAny_pure (a := false) ?_)
  simp only [Bool.and_false, Bool.false_and, Bool.false_eq_true, if_false]
  refine wpAny_bind (wpAny_pure (a := false) ?_)
  simp only [Bool.false_eq_true, if_false, if_true]
  refine wpAny_bind (wpAny_mono (PySem.W.ksp_try X J R.l R.lf h) ?_ (fun _ _ z => z))
  rintro r s' ⟨v, rfl, q⟩
  exact wpAny_pure ⟨v, rfl, q⟩
theorem bin1I {nm idr : String} (R : ROp K C f g nm) (hf : fillsNumberSlot (.type "int") nm = pure true) (hl : typeLookup (.type "int") (dunderR nm) = pure (some (.builtin idr))) (X : K.In s.heap) (J : PySem.W.InstAt s.heap x ox C od)
    (h : wpAny (model prog w) A (call (.ref f) [.ref x, .int i t]) (PySem.W.CmpBack Q) E s) : wpAny (model prog w) A (binaryOp1 nm (.ref x) (.int i t)) (fun r s' => ∃ v, r = some v ∧ Q v s') E s := by
  obtain ⟨cd, hc, hmro⟩ := mro2_cls R.cls
  unfold binaryOp1
  refine wpAny_bind (J.type _ _ _ _ (fun _ _ z => z) ?_)
  refine wpAny_bind (wpAny_pure (a := Value.type "int") ?_)
  refine wpAny_bind (PySem.W.fills_K X hc hmro R.l _ _ _ _ (fun _ _ z => z) ?_)
  refine wpAny_bind ?_
  rw [hf]
  refine wpAny_pure ?_
  refine wpAny_bind ((PySem.W.kit_cls X R.kit2).2.2 _ _ _ _ (fun _ _ z => z) ?_)
  refine wpAny_bind (PySem.W.ksp_inPy X R.l R.r (.inr ⟨g, rfl⟩) _ _ _ _ (fun _ _ z => z) ?_)
  refine wpAny_bind (wpAny_pure (a := false) ?_)
  refine wpAny_bind ?_
  rw [hl]
  refine wpAny_pure ?_
  refine wpAny_bind (wpAny_mono (PySem.W.ksp_try X J R.l R.lf h) ?_ (fun _ _ z => z))
  rintro r s' ⟨v, rfl, q⟩
  exact wpAny_pure ⟨v, rfl, q⟩
/-- from what binaryOp1 gives -/
theorem bin_of {op : Operator} {a b : Value} (h : wpAny (model prog w) A (binaryOp1 op.info.2 a b) (fun r s' => ∃ v, r = some v ∧ Q v s') E s) : wpAny (model prog w) A (binaryOp op a b) Q E s := by
  unfold binaryOp
  refine wpAny_holding ?_
  refine wpAny_bind (wpAny_mono h ?_ (fun _ _ z => z))
  rintro r s' ⟨v, rfl, q⟩
  exact wpAny_pure q
theorem ip_of {op : Operator} {b : Value} (hm : mro2 K C = true) (no : PySem.W.findIn K (.ref C) (dunderI op.info.2) = some none) (no2 : PySem.W.findIn K (.type "object") (dunderI op.info.2) = some none) (X : K.In s.heap) (J : PySem.W.InstAt s.heap x ox C od)
    (h : wpAny (model prog w) A (binaryOp1 op.info.2 (.ref x) b) (fun r s' => ∃ v, r = some v ∧ Q v s') E s) : wpAny (model prog w) A (inplaceOp op (.ref x) b) Q E s := by
  obtain ⟨cd, hc, hmro⟩ := mro2_cls hm
  unfold inplaceOp
  refine wpAny_holding ?_
  refine wpAny_bind (J.type _ _ _ _ (fun _ _ z => z) ?_)
  refine wpAny_bind ?_
  have fi : wpAny (model prog w) A (fillsInplaceSlot (.ref C) op.info.2 (op == .Add)) (fun r s' => r = false ∧ s' = s) E s := by
    unfold fillsInplaceSlot
    refine wpAny_bind ?_
    refine wpAny_bind (PySem.W.looks_clsIn X hc _ _ _ _ (fun _ _ z => z) ?_)
    refine wpAny_pure ?_
    rw [hmro]
    refine wpAny_bind ?_
    refine wpAny_bind (PySem.W.looks_findIn X no _ _ _ _ (fun _ _ z => z) ?_)
    refine wpAny_pure ?_
    refine wpAny_bind ?_
    refine wpAny_bind (PySem.W.looks_findIn X no2 _ _ _ _ (fun _ _ z => z) ?_)
    refine wpAny_pure ?_
    exact wpAny_pure ⟨rfl, rfl⟩
  refine wpAny_mono fi ?_ (fun _ _ z => z)
  rintro r s' ⟨rfl, rfl⟩
  refine wpAny_bind (wpAny_mono h ?_ (fun _ _ z => z))
  rintro r s' ⟨v, rfl, q⟩
  exact wpAny_pure q
end
section
variable {X : Cx}
/-- the left hand an own object (the right one another, or an int), or the left hand an int and the right one an own object, or two ints; spF: the class's own method, spR: its reflected one -/
def rBin (C : Addr) (spF spR : Sp) (E E2 : XK) (gi : Int → Int → V) : R2 := fun x y H Q =>
  (∃ a dx fs b dy gs, x = .ref a ∧ y = .ref b ∧ H a = some (.ins C dx fs) ∧ H b = some (.ins C dy gs) ∧ spF [x, y] H Q E) ∨
  (∃ a dx fs j, x = .ref a ∧ y = .int j ∧ H a = some (.ins C dx fs) ∧ spF [x, y] H Q E) ∨
  (∃ i b dy gs, x = .int i ∧ y = .ref b ∧ H b = some (.ins C dy gs) ∧ spR [y, x] H Q E2)
theorem back_of {pins : List (Addr × Obj)} {σ : St} {Q : VK} {u : Value} {s1 : Shared} (h : EP X pins σ Q u s1) : PySem.W.CmpBack (EP X pins σ Q) u s1 := by
  have h0 := h
  obtain ⟨v, H, I, r, q⟩ := h
  cases u with
  | notImplemented => cases v <;> first | (cases r; done) | (obtain ⟨_, z⟩ := r; cases z)
  | _ => exact h0
theorem inst_of' {pins : List (Addr × Obj)} {σ : St} {H : Hp} {s : Shared} (I : Inv X pins σ H s) {a C dx : Addr} {fs : List (Str × V)} (h : H a = some (.ins C dx fs)) : ∃ od, PySem.W.InstAt s.heap a (PySem.W.instObj C dx) C od := by
  obtain ⟨mA, O, _, _, _, _⟩ := ins_get I.hok h
  obtain ⟨od, ho, _⟩ := lookIn_ns O.ns
  exact ⟨some od, O.obj, rfl, rfl, ho⟩
/-- the facts of the int's side of an operator -/
structure IntOp (nm : String) : Prop where
  ok : ∃ (id idr : String) (B : Builtin), Slot "int" (dunder nm) id ∧ entryFor table id = some B ∧ (∀ a b : Value, argsOk id { pos := [a, b] }) ∧ (∀ (i : Int) (t : Tok) (x C dx : Addr), Meets (B { pos := [.int i t, .ref x] }) (fun A R s => s.heap.get? x = some (PySem.W.instObj C dx) ∧ R (.ok (.ret .notImplemented)) s)) ∧ fillsNumberSlot (.type "int") nm = pure true ∧ typeLookup (.type "int") (dunderR nm) = pure (some (.builtin idr))
variable {CX1 CX2 : CXT} {C f g : Addr} {fd gd : FuncData} {k k2 : Nat} {spF spR : Sp} {E E2 : XK} {op : Operator} {gi : Int → Int → V}
theorem bin1_own (R : ROp X.K C f g op.info.2) (IO : IntOp op.info.2) (F : FnOk X.prog X.w X.K X.mg X.base CX1 k f fd ["self", "other"] spF) (G : FnOk X.prog X.w X.K X.mg X.base CX2 k2 g gd ["self", "other"] spR) (hr : Room k X.A) (hr2 : Room k2 X.A)
    (bF : Binds X.K fd ["self", "other"] []) (bG : Binds X.K gd ["self", "other"] []) (hx : Passes CX1 X E) (hx2 : Passes CX2 X E2)
    (pins : List (Addr × Obj)) (s : Shared) (σ : St) (H : Hp) (x y : V) (v u : Value) (Q : VK) (I : Inv X pins σ H s) (rx : RelV x v) (ry : RelV y u) (h : rBin C spF spR E E2 gi x y H Q) :
    wpAny (model X.prog X.w) X.A (binaryOp1 op.info.2 v u) (fun r s' => ∃ v, r = some v ∧ EP X pins σ Q v s') X.xe s := by
  obtain ⟨id, idr, B, hs, he, ha, hm, hfl, hl⟩ := IO.ok
  rcases h with ⟨a, dx, fs, b, dy, gs, rfl, rfl, hA, hB, h⟩ | ⟨a, dx, fs, j, rfl, rfl, hA, h⟩ | ⟨i, b, dy, gs, rfl, rfl, hB, h⟩
  · cases rx
    cases ry
    obtain ⟨_, J⟩ := inst_of' I hA
    obtain ⟨_, J2⟩ := inst_of' I hB
    exact bin1L R I.kIn J J2 (wpAny_mono (run_fn (vs := [.ref a, .ref b]) (us := [.ref a, .ref b]) (dvs := []) F hr bF .nil hx I (.cons rfl (.cons rfl .nil)) h) (fun _ _ z => back_of z) (fun _ _ z => z))
  · cases rx
    obtain ⟨t, rfl⟩ := ry
    obtain ⟨_, J⟩ := inst_of' I hA
    exact bin1I R hfl hl I.kIn J (wpAny_mono (run_fn (vs := [.ref a, .int j]) (us := [.ref a, .int j t]) (dvs := []) F hr bF .nil hx I (.cons rfl (.cons ⟨t, rfl⟩ .nil)) h) (fun _ _ z => back_of z) (fun _ _ z => z))
  · obtain ⟨t, rfl⟩ := rx
    cases ry
    obtain ⟨_, J⟩ := inst_of' I hB
    exact bin1R R hs he (ha _ _) (hm _ _ _ C dy) hfl I.kIn J (wpAny_mono (run_fn (vs := [.ref b, .int i]) (us := [.ref b, .int i t]) (dvs := []) G hr2 bG .nil hx2 I (.cons rfl (.cons ⟨t, rfl⟩ .nil)) h) (fun _ _ z => back_of z) (fun _ _ z => z))
/-- the left hand an own object, the right one another or an int -/
def rBinL (C : Addr) (spF : Sp) (E : XK) : R2 := fun x y H Q =>
  (∃ a dx fs b dy gs, x = .ref a ∧ y = .ref b ∧ H a = some (.ins C dx fs) ∧ H b = some (.ins C dy gs) ∧ spF [x, y] H Q E) ∨
  (∃ a dx fs j, x = .ref a ∧ y = .int j ∧ H a = some (.ins C dx fs) ∧ spF [x, y] H Q E)
theorem op_ownL (R : ROp X.K C f g op.info.2) (IO : IntOp op.info.2) (F : FnOk X.prog X.w X.K X.mg X.base CX1 k f fd ["self", "other"] spF) (hr : Room k X.A)
    (bF : Binds X.K fd ["self", "other"] []) (hx : Passes CX1 X E) : OpR X (binaryOp op) (rBinL C spF E) := fun pins s σ H x y v u Q I rx ry h => bin_of (by
  obtain ⟨id, idr, B, hs, he, ha, hm, hfl, hl⟩ := IO.ok
  rcases h with ⟨a, dx, fs, b, dy, gs, rfl, rfl, hA, hB, h⟩ | ⟨a, dx, fs, j, rfl, rfl, hA, h⟩
  · cases rx
    cases ry
    obtain ⟨_, J⟩ := inst_of' I hA
    obtain ⟨_, J2⟩ := inst_of' I hB
    exact bin1L R I.kIn J J2 (wpAny_mono (run_fn (vs := [.ref a, .ref b]) (us := [.ref a, .ref b]) (dvs := []) F hr bF .nil hx I (.cons rfl (.cons rfl .nil)) h) (fun _ _ z => back_of z) (fun _ _ z => z))
  · cases rx
    obtain ⟨t, rfl⟩ := ry
    obtain ⟨_, J⟩ := inst_of' I hA
    exact bin1I R hfl hl I.kIn J (wpAny_mono (run_fn (vs := [.ref a, .int j]) (us := [.ref a, .int j t]) (dvs := []) F hr bF .nil hx I (.cons rfl (.cons ⟨t, rfl⟩ .nil)) h) (fun _ _ z => back_of z) (fun _ _ z => z)))
theorem op_own (R : ROp X.K C f g op.info.2) (IO : IntOp op.info.2) (F : FnOk X.prog X.w X.K X.mg X.base CX1 k f fd ["self", "other"] spF) (G : FnOk X.prog X.w X.K X.mg X.base CX2 k2 g gd ["self", "other"] spR) (hr : Room k X.A) (hr2 : Room k2 X.A)
    (bF : Binds X.K fd ["self", "other"] []) (bG : Binds X.K gd ["self", "other"] []) (hx : Passes CX1 X E) (hx2 : Passes CX2 X E2) : OpR X (binaryOp op) (rBin C spF spR E E2 gi) :=
  fun pins s σ H x y v u Q I rx ry h => bin_of (bin1_own R IO F G hr hr2 bF bG hx hx2 pins s σ H x y v u Q I rx ry h)
/-- x op= y, x an own object, without a method of its own for it -/
def rIp (C : Addr) (spF spR : Sp) (E E2 : XK) (gi : Int → Int → V) : TIp := fun x y H Q => rBin C spF spR E E2 gi x y H Q ∧ ∃ a dx fs, x = .ref a ∧ H a = some (.ins C dx fs)
theorem ip_own (R : ROp X.K C f g op.info.2) (no2 : PySem.W.findIn X.K (.type "object") (dunderI op.info.2) = some none) (IO : IntOp op.info.2) (F : FnOk X.prog X.w X.K X.mg X.base CX1 k f fd ["self", "other"] spF) (G : FnOk X.prog X.w X.K X.mg X.base CX2 k2 g gd ["self", "other"] spR) (hr : Room k X.A) (hr2 : Room k2 X.A)
    (bF : Binds X.K fd ["self", "other"] []) (bG : Binds X.K gd ["self", "other"] []) (hx : Passes CX1 X E) (hx2 : Passes CX2 X E2) : PIp X op (rIp C spF spR E E2 gi) := fun pins s σ H x y v u Q I rx ry h => by
  obtain ⟨h, a, dx, fs, rfl, hA⟩ := h
  have z := bin1_own R IO F G hr hr2 bF bG hx hx2 pins s σ H _ y v u Q I rx ry h
  cases rx
  obtain ⟨_, J⟩ := inst_of' I hA
  exact ip_of R.cls R.no no2 I.kIn J z
theorem io_add : IntOp "add" := ⟨"int.__add__", _, _, PySem.F.slot_int_add, PySem.F.entry_int_add, args_int_add, fun i t x C dx => declines, PySem.F.fills_int_add, rfl⟩
theorem io_sub : IntOp "sub" := ⟨"int.__sub__", _, _, PySem.F.slot_int_sub, PySem.F.entry_int_sub, args_int_sub, fun i t x C dx => declines, PySem.F.fills_int_sub, rfl⟩
theorem io_mul : IntOp "mul" := ⟨"int.__mul__", _, _, PySem.F.slot_int_mul, PySem.F.entry_int_mul, args_int_mul, fun i t x C dx => declines, PySem.F.fills_int_mul, rfl⟩
/-- -x, x an int or an own object -/
def rNeg (C : Addr) (sp : Sp) (E : XK) : V → Hp → VK → Prop := fun x H Q => (∃ i, x = .int i ∧ Q (.int (-i)) H) ∨ (∃ a dx fs, x = .ref a ∧ H a = some (.ins C dx fs) ∧ sp [x] H Q E)
theorem un_own {sp : Sp} {CX : CXT} (hf : PySem.W.findIn X.K (.ref C) "__neg__" = some (some (.ref f))) (hi : PySem.W.isFn X.K (.ref f) = true) (F : FnOk X.prog X.w X.K X.mg X.base CX k f fd ["self"] sp) (hr : Room k X.A) (b : Binds X.K fd ["self"] []) (hx : Passes CX X E) : UnR X (unaryOp .USub) (rNeg C sp E) := by
  intro pins s σ H x v Q I rx h
  rcases h with ⟨i, rfl, q⟩ | ⟨a, dx, fs, rfl, hA, h⟩
  · exact un_neg pins s σ H _ v Q I rx ⟨i, rfl, q⟩
  · cases rx
    obtain ⟨_, J⟩ := inst_of' I hA
    obtain ⟨m, fr⟩ := I.fr
    exact PySem.W.ksp_neg fr I.ok.mod.kin J hf hi (run_fn (vs := [.ref a]) (us := [.ref a]) (dvs := []) F hr b .nil hx I (.cons rfl .nil) h)
end
end L2

/-! The int's side of // declines an own object; defs called in an except suite with the handled error as argument; isinstance of that error there. -/
namespace L2
open PySem PySem.Spec PyProof.Rows Er
theorem declinesDiv {x C dx : Addr} {i : Int} {t : Tok} : Meets (Builtin.«int.__floordiv__» { pos := [.int i t, .ref x] }) (fun A R s => s.heap.get? x = some (PySem.W.instObj C dx) ∧ R (.ok (.ret .notImplemented)) s) := by
  intro prog w A R s ⟨h, r⟩
  show wpAny _ _ (Builtin.exactOperandsForPylong false { pos := [.int i t, .ref x] } >>= fun _ => Builtin.Int.intBinary "__floordiv__" _ false { pos := [.int i t, .ref x] }) _ _ _
  refine wpAny_bind ?_
  unfold Builtin.exactOperandsForPylong
  rw [if_pos (by rfl)]
  dsimp only
  refine wpAny_bind (wpAny_pure (a := some i) ?_)
  refine wpAny_bind ?_
  refine wpAny_bind (wpAny_load h ?_)
  refine wpAny_pure ?_
  refine wpAny_pure ?_
  exact declines prog w A R s ⟨h, r⟩
theorem io_div : IntOp "floordiv" := ⟨"int.__floordiv__", _, _, PySem.F.slot_int_floordiv, PySem.F.entry_int_floordiv, fun a b => PySem.F.args_int_floordiv_2 _ _, fun i t x C dx => declinesDiv, PySem.F.fills_int_floordiv, rfl⟩
/-! ### a def called in an except suite with the handled error -/
/-- such a def's promise may speak of the handled error p -/
structure FnP (P : Program) (w : World) (K : PySem.W.Frag) (mg : Str → Option Value) (base : Heap) (k : Nat) (f : Addr) (fd : FuncData) (ps : List Str) (sp : Addr × Obj → Sp) : Prop where
  ar : ∀ p us H Q E, sp p us H Q E → us.length = ps.length
  go : ∀ (p : Addr × Obj) (B : Around) (env : List Env) (st : Shared) (G : Hp) (ar : Args) (ws : List Value) (xs : List V) (Q : VK) (E : XK),
    L2H.RoomH k B → L2H.Hot1 B p → L2H.PinOk env G st p → Env0 P w K mg base B env st G → BindsTo st fd ar (ps.zip ws) → Vals xs ws → sp p xs G Q E →
      codeAny (model P w) B (.call (.ref f) ar) (CR CX0 env P w G st Q E) st
theorem Fun.okP {P : Program} {w : World} {K : PySem.W.Frag} {mg : Str → Option Value} {base : Heap} {x qual : Str} {st : Stmt} {f : Addr} {fd : FuncData} {N ps : List Str} {k : Nat} {sp : Addr × Obj → Sp} (F : Fun K x qual st f fd) (S : FnScope N ps (defScope st))
    (ar : ∀ p us H Q E, sp p us H Q E → us.length = ps.length)
    (hbody : ∀ (p : Addr × Obj) (cdv : Value) (B : Around) (env : List Env) (s : Shared) (G : Hp) (xs : List V) (Q : VK) (E : XK), L2H.Hot1 B p → sp p xs G Q E →
      ∃ t, PSs (L2H.cxH CX0 P w K mg base N qual (defScope st) f cdv B env s G E p) (defBody st) t ∧ t { nx := fun _ H' => Q .non H', rt := Q } (start N xs) G) : FnP P w K mg base (k + 1) f fd ps sp := by
  obtain ⟨oc, od, kV, doc, pm, an, cdv, ct, osl, rfl, lk, hcd⟩ := F.ex
  refine ⟨ar, ?_⟩
  intro p B env s G args ws xs Q E room hot pin e0 bind vals promise
  have lenx := ar _ _ _ _ _ promise
  have KX : K.In s.heap := e0.mod.kin.keeps fun b o z => (e0.bs b o z).1
  have nolim : s.heap.NoLimit := e0.mod.nolimit.keeps fun b o z => (e0.bs b o z).1
  have kinds : ∀ y ∈ ps.zip ws, (defScope st).names.lookup y.1 = some .local ∨ ((defScope st).names.lookup y.1 = some .cell ∧ ((cellsFrom (s.heap.objs.size + 1) (defScope st).names []).lookup y.1).isSome = true) := by
    intro y hy
    obtain ⟨n, v⟩ := y
    cases S.par n (List.of_mem_zip hy).1 with
    | inl q => exact Or.inl q
    | inr q => exact Or.inr ⟨q, PySem.W.cellsFrom_some _ _ _ (Or.inl q)⟩
  refine codeAny_call_function room.depth (KX _ _ lk) rfl S.co S.gen rfl (PySem.W.codeRec_of KX hcd) (bind _ _ _ _ ?_)
  refine wpAny_newFunctionEnv_cells S.kind kinds ?_
  intro env' he s1 x
  subst he
  refine ⟨nolim.keeps x.toInCall.keep, codeAny_func ?_⟩
  obtain ⟨t, ht, reads⟩ := hbody p cdv B env s G xs Q E hot promise
  have J := L2H.inv_startH (CX := CX0) (E := E) S pin e0 lenx vals x
  refine wpAny_mono (ht.run [] s1 (start N xs) G _ J reads) ?_ (fun _ _ z => z)
  intro fl s' hs
  cases fl with
  | ret u =>
    obtain ⟨v, σ', H', I', rv, q⟩ := hs
    exact ⟨v, H', I'.os, I'.bare, I'.base, I'.hok, rv, q⟩
  | next =>
    obtain ⟨σ', H', I', q⟩ := hs
    exact ⟨V.non, H', I'.os, I'.bare, I'.base, I'.hok, rfl, q⟩
  | brk =>
    obtain ⟨_, _, _, q⟩ := hs
    exact q.elim
  | cont =>
    obtain ⟨_, _, _, q⟩ := hs
    exact q.elim
section
variable {X : Cx} {k : Nat} {f : Addr} {fd : FuncData} {ps : List Str} {sp : Addr × Obj → Sp} {x : Str} {q pos : Pos} {e : Expr} {es : List Expr} {t : TA} {p : Addr × Obj}
/-- the call of such a def, its promise as the caller says it -/
theorem pe_callQ {sq : Sp} (F : FnP X.prog X.w X.K X.mg X.base k f fd ps sp) (room : L2H.RoomH k X.A) (hot : L2H.Hot1 X.A p) (hp : p ∈ X.pn) (hg : Gl X x) (hm : X.mg x = some (.ref f)) (hk : PySem.W.keepIn X.K (.ref f) = true) (hb : Binds X.K fd ps []) (hw : ∀ vs H Q, sq vs H Q E0 → sp p vs H Q E0)
    (ha : PA X (e :: es) t) (hdb : (x == ("__debug__" : Str)) = false := by decide) (he : starEach (e :: es) X.env = (false, eval e X.env) :: starEach es X.env := by rfl) (hpl : (backTo pos (starEach es X.env)).any (·.1) = false := by rfl) :
    PE X (.Call (.Name x q) (e :: es) [] pos) (tCall sq [] E0 t) := by
  refine ⟨?_⟩
  intro pins s σ H Q I h
  refine wpAny_Call_Name_kw (ld_glob I hg hm ?_ hdb)
  refine PySem.W.callWith_K (h₀ := X.base) I.ok.mod.kin hk (thn (ha.run pos pins s σ H _ I h) ?_) he hpl
  intro us s1 hh
  obtain ⟨vs, H1, I1, r, q1⟩ := hh
  rw [List.append_nil] at q1
  replace q1 := hw _ _ _ q1
  refine ⟨I1.kIn, ?_⟩
  have lenu : us.length = ps.length := by
    rw [← r.length]
    exact F.ar _ _ _ _ _ q1
  have b := hb s1 us I1.kIn (by rw [List.append_nil]; exact lenu)
  rw [List.append_nil] at b
  have P1 := I1.pin p (List.mem_append_left _ hp)
  have pin : L2H.PinOk X.stack H1 s1 p := ⟨P1.1, P1.2.1, fun hm' => (List.mem_cons.mp (I1.stkSub p.1 hm')).elim P1.2.2.1 P1.2.2.2.1, P1.2.2.2.2⟩
  refine wpAny_call (codeAny_mono (F.go p X.A X.stack s1 H1 ⟨us, []⟩ us vs Q E0 room hot pin I1.env0 b r q1) ?_)
  intro r2 s' hq
  cases r2 with
  | error er => exact False.elim hq
  | ok fl =>
    cases fl with
    | ret u => exact I1.after hq
    | next => exact hq.elim
    | brk => exact hq.elim
    | cont => exact hq.elim
/-- isinstance of the handled error, held anywhere -/
theorem call_isP {a D : Addr} {cls : Value} {dd : Option Addr} {oe : Obj} (C : ExcC X.K D) (hp : (a, oe) ∈ X.pn) (hz : Zc cls dd oe) (hf : ∃ vs, oe.data = .fields vs) : CallR X (.builtin "isinstance") (rIsF X.K D a cls dd) := by
  intro pins s σ H xs us Q I r h
  obtain ⟨ecls, c, cv, b, rfl, hcv, hdd, e, q⟩ := h
  subst ecls
  cases r with
  | cons rx rr =>
    cases rr with
    | cons rt rr =>
      cases rr
      cases rx
      have ec := hcv _ rt
      subst ec
      obtain ⟨hget, _⟩ := I.pin (a, oe) (List.mem_append.mpr (.inl hp))
      obtain ⟨vs, hv⟩ := hf
      have hcl : (PySem.W.clsIn X.K D).isSome = true := by
        obtain ⟨cd, hc, _⟩ := PySem.W.any_some C.hd
        rw [hc]
        rfl
      have J : ∃ od, PySem.W.InstAt s.heap a oe D od := by
        obtain ⟨oc, od, oda, osl⟩ := oe
        obtain ⟨h1, h2⟩ := hz
        dsimp only at h1 h2 hv
        subst h1 h2 hv
        cases od with
        | none => exact ⟨none, hget, rfl, rfl, trivial⟩
        | some dx =>
          obtain ⟨fs, hx⟩ := hdd dx rfl
          have ok : ObjOk X.prog X.w H s.heap dx (.xd fs) := I.hok dx _ hx
          obtain ⟨mA, hns, hr⟩ := ok
          obtain ⟨od, ho, hl⟩ := lookIn_ns hns
          exact ⟨some od, hget, rfl, rfl, ho⟩
      obtain ⟨od, J⟩ := J
      exact PySem.W.kia_one (PySem.W.kitx_exc hcl C.hg C.hk C.hs C.ha C.hn C.ht C.hm) I.kIn J e (fun z => nomatch z) fun tk => ⟨.bl b, H, I.kept (t' := tk) fun _ _ z => z, rfl, q⟩
theorem hot1_suite {X : Cx} {a : Addr} {oe : Obj} {cls : Value} {d : Option Addr} {pn : List (Addr × Obj)} (hz : L2N.Zn cls d oe) (hf : ∃ vs, oe.data = .fields vs) : L2H.Hot1 (X.suite a ((a, oe) :: pn)).A (a, oe) := by
  obtain ⟨vs, hv⟩ := hf
  exact ⟨rfl, vs, hv, hz.2.2 vs hv⟩
end
end L2

namespace Hk4
open PySem PySem.Spec PyProof.Rows L2 Er
def topS (i : Nat) : Stmt := PySem.Challenge.pw_renamedhorn_k04_share_quotients.main.body.getD i (.Pass ⟨0, 0, 0, 0⟩)
abbrev s__is_exact : Stmt := (topS 7)
abbrev N__is_exact : List Str := ["value"]
theorem sc__is_exact : FnScope N__is_exact ["value"] (defScope s__is_exact) := ⟨rfl, rfl, rfl, by decide +kernel, rfl, by decide +kernel, by decide +kernel⟩
abbrev s__parts : Stmt := (topS 8)
abbrev N__parts : List Str := ["value"]
theorem sc__parts : FnScope N__parts ["value"] (defScope s__parts) := ⟨rfl, rfl, rfl, by decide +kernel, rfl, by decide +kernel, by decide +kernel⟩
abbrev s__quotient : Stmt := (topS 10)
abbrev N__quotient : List Str := ["one", "other", "top", "bottom", "other_top", "other_bottom"]
theorem sc__quotient : FnScope N__quotient ["one", "other"] (defScope s__quotient) := ⟨rfl, rfl, rfl, by decide +kernel, rfl, by decide +kernel, by decide +kernel⟩
abbrev s__floor : Stmt := (topS 11)
abbrev N__floor : List Str := ["share"]
theorem sc__floor : FnScope N__floor ["share"] (defScope s__floor) := ⟨rfl, rfl, rfl, by decide +kernel, rfl, by decide +kernel, by decide +kernel⟩
abbrev s_Share_init : Stmt := (inClass (topS 13) 0)
abbrev N_Share_init : List Str := ["self", "top", "bottom", "common"]
theorem sc_Share_init : FnScope N_Share_init ["self", "top", "bottom"] (defScope s_Share_init) := ⟨rfl, rfl, rfl, by decide +kernel, rfl, by decide +kernel, by decide +kernel⟩
abbrev s_Share_floordiv : Stmt := (inClass (topS 13) 8)
abbrev N_Share_floordiv : List Str := ["self", "other"]
theorem sc_Share_floordiv : FnScope N_Share_floordiv ["self", "other"] (defScope s_Share_floordiv) := ⟨rfl, rfl, rfl, by decide +kernel, rfl, by decide +kernel, by decide +kernel⟩
abbrev s_Share_rfloordiv : Stmt := (inClass (topS 13) 9)
abbrev N_Share_rfloordiv : List Str := ["self", "other"]
theorem sc_Share_rfloordiv : FnScope N_Share_rfloordiv ["self", "other"] (defScope s_Share_rfloordiv) := ⟨rfl, rfl, rfl, by decide +kernel, rfl, by decide +kernel, by decide +kernel⟩
abbrev s_Share_over : Stmt := (inClass (topS 13) 10)
abbrev N_Share_over : List Str := ["self", "other"]
theorem sc_Share_over : FnScope N_Share_over ["self", "other"] (defScope s_Share_over) := ⟨rfl, rfl, rfl, by decide +kernel, rfl, by decide +kernel, by decide +kernel⟩
abbrev s__law_source : Stmt := (topS 15)
abbrev N__law_source : List Str := ["_law_script"]
theorem sc__law_source : FnScope N__law_source ["_law_script"] (defScope s__law_source) := ⟨rfl, rfl, rfl, by decide +kernel, rfl, by decide +kernel, by decide +kernel⟩
abbrev s__law_take : Stmt := (topS 16)
abbrev N__law_take : List Str := ["_law_source_here", "_law_many", "_law_mixed", "_law_cell", "_law_value"]
theorem sc__law_take : FnScope N__law_take ["_law_source_here", "_law_many"] (defScope s__law_take) := ⟨rfl, rfl, rfl, by decide +kernel, rfl, by decide +kernel, by decide +kernel⟩
abbrev s__law_same : Stmt := (topS 17)
abbrev N__law_same : List Str := ["_law_one", "_law_other", "_law_lists", "_law_k"]
theorem sc__law_same : FnScope N__law_same ["_law_one", "_law_other"] (defScope s__law_same) := ⟨rfl, rfl, rfl, by decide +kernel, rfl, by decide +kernel, by decide +kernel⟩
abbrev s__law_gcd : Stmt := (topS 18)
abbrev N__law_gcd : List Str := ["_law_one", "_law_other", "_law_k", "_law_rest"]
theorem sc__law_gcd : FnScope N__law_gcd ["_law_one", "_law_other"] (defScope s__law_gcd) := ⟨rfl, rfl, rfl, by decide +kernel, rfl, by decide +kernel, by decide +kernel⟩
abbrev s__law_is_share : Stmt := (topS 19)
abbrev N__law_is_share : List Str := ["_law_share", "_law_top", "_law_bottom", "_law_common"]
theorem sc__law_is_share : FnScope N__law_is_share ["_law_share", "_law_top", "_law_bottom"] (defScope s__law_is_share) := ⟨rfl, rfl, rfl, by decide +kernel, rfl, by decide +kernel, by decide +kernel⟩
abbrev s__law_number : Stmt := (topS 20)
abbrev N__law_number : List Str := ["_law_source_here", "_law_parts", "_law_number_here", "_law_k"]
theorem sc__law_number : FnScope N__law_number ["_law_source_here", "_law_parts"] (defScope s__law_number) := ⟨rfl, rfl, rfl, by decide +kernel, rfl, by decide +kernel, by decide +kernel⟩
abbrev s__law_fraction : Stmt := (topS 21)
abbrev N__law_fraction : List Str := ["_law_source_here", "_law_parts", "_law_top", "_law_bottom"]
theorem sc__law_fraction : FnScope N__law_fraction ["_law_source_here", "_law_parts"] (defScope s__law_fraction) := ⟨rfl, rfl, rfl, by decide +kernel, rfl, by decide +kernel, by decide +kernel⟩
abbrev s__law_first : Stmt := (topS 22)
abbrev N__law_first : List Str := ["_law_source_here", "_law_second", "_law_first_here", "_law_times", "_law_parts", "_law_beside"]
theorem sc__law_first : FnScope N__law_first ["_law_source_here", "_law_second"] (defScope s__law_first) := ⟨rfl, rfl, rfl, by decide +kernel, rfl, by decide +kernel, by decide +kernel⟩
abbrev s__law_right_error : Stmt := (topS 23)
abbrev N__law_right_error : List Str := ["_law_error"]
theorem sc__law_right_error : FnScope N__law_right_error ["_law_error"] (defScope s__law_right_error) := ⟨rfl, rfl, rfl, by decide +kernel, rfl, by decide +kernel, by decide +kernel⟩
abbrev s__law_no_floor : Stmt := (topS 24)
abbrev N__law_no_floor : List Str := ["_law_one", "_law_other", "_law_error"]
theorem sc__law_no_floor : FnScope N__law_no_floor ["_law_one", "_law_other"] (defScope s__law_no_floor) := ⟨rfl, rfl, rfl, by decide +kernel, rfl, by decide +kernel, by decide +kernel⟩
abbrev s__law_no_over : Stmt := (topS 25)
abbrev N__law_no_over : List Str := ["_law_one", "_law_other", "_law_error"]
theorem sc__law_no_over : FnScope N__law_no_over ["_law_one", "_law_other"] (defScope s__law_no_over) := ⟨rfl, rfl, rfl, by decide +kernel, rfl, by decide +kernel, by decide +kernel⟩
abbrev s__law_quotients : Stmt := (topS 26)
abbrev N__law_quotients : List Str := ["_law_one", "_law_other", "_law_p", "_law_q"]
theorem sc__law_quotients : FnScope N__law_quotients ["_law_one", "_law_other", "_law_p", "_law_q"] (defScope s__law_quotients) := ⟨rfl, rfl, rfl, by decide +kernel, rfl, by decide +kernel, by decide +kernel⟩
abbrev s__law_under : Stmt := (topS 27)
abbrev N__law_under : List Str := ["_law_number_here", "_law_other", "_law_q"]
theorem sc__law_under : FnScope N__law_under ["_law_number_here", "_law_other", "_law_q"] (defScope s__law_under) := ⟨rfl, rfl, rfl, by decide +kernel, rfl, by decide +kernel, by decide +kernel⟩
abbrev s_law : Stmt := (topS 28)
abbrev N_law : List Str := ["_law_script", "_law_source_here", "_law_q", "_law_p", "_law_number_here", "_law_one", "_law_other", "_law_zero"]
theorem sc_law : FnScope N_law ["_law_script"] (defScope s_law) := ⟨rfl, rfl, rfl, by decide +kernel, rfl, by decide +kernel, by decide +kernel⟩
abbrev me_BadShare : PySem.Expr := (.JoinedStr [(.Constant (.str "not the text of a share: ") 0 ⟨8, 27, 8, 52⟩), (.FormattedValue (.Name "text" ⟨8, 53, 8, 57⟩) 114 none ⟨8, 52, 8, 60⟩)] ⟨8, 25, 8, 61⟩)
abbrev ea_BadShare : Arguments := (args1 "text" ⟨7, 17, 7, 21⟩ ⟨7, 23, 7, 27⟩)
abbrev eb_BadShare : List Stmt := [supS me_BadShare ⟨8, 8, 8, 13⟩ ⟨8, 8, 8, 15⟩ ⟨8, 8, 8, 24⟩ ⟨8, 8, 8, 62⟩ ⟨8, 8, 8, 62⟩, keepS "text" ⟨9, 8, 9, 12⟩ ⟨9, 8, 9, 17⟩ ⟨9, 20, 9, 24⟩ ⟨9, 8, 9, 24⟩]
abbrev me_ZeroBelow : PySem.Expr := (.Constant (.str "zero stands below") 0 ⟨13, 25, 13, 44⟩)
abbrev ea_ZeroBelow : Arguments := (args0 ⟨12, 17, 12, 21⟩)
abbrev eb_ZeroBelow : List Stmt := [supS me_ZeroBelow ⟨13, 8, 13, 13⟩ ⟨13, 8, 13, 15⟩ ⟨13, 8, 13, 24⟩ ⟨13, 8, 13, 45⟩ ⟨13, 8, 13, 45⟩]
theorem fld_text : Fld "text" := ⟨fun _ _ _ _ _ _ _ _ _ _ _ _ _ _ => rfl, rfl, by decide, rfl, rfl, rfl, by decide⟩
structure Txt (P : Program) (K : PySem.W.Frag) (mg : Str → Option Value) where
  C_Share : Addr
  g_Share : mg "Share" = some (.ref C_Share)
  cl_Share : Cls K C_Share
  mi_Share : PySem.W.makesIn K C_Share = true
  kc_Share : PySem.W.keepIn K (.ref C_Share) = true
  ins_Share : C8.InsC K C_Share
  na_Share_top : NoAttr K C_Share "top"
  na_Share_bottom : NoAttr K C_Share "bottom"
  kt_int_Share : PySem.W.kitOne K (.type "int") (.ref C_Share) = some false
  v_gcd : mg "gcd" = some (.builtin "math.gcd")
  f__is_exact : Addr
  d__is_exact : FuncData
  F__is_exact : Fun K "_is_exact" "_is_exact" s__is_exact f__is_exact d__is_exact
  b__is_exact : Binds K d__is_exact ["value"] []
  g__is_exact : mg "_is_exact" = some (.ref f__is_exact)
  f__parts : Addr
  d__parts : FuncData
  F__parts : Fun K "_parts" "_parts" s__parts f__parts d__parts
  b__parts : Binds K d__parts ["value"] []
  g__parts : mg "_parts" = some (.ref f__parts)
  f__quotient : Addr
  d__quotient : FuncData
  F__quotient : Fun K "_quotient" "_quotient" s__quotient f__quotient d__quotient
  b__quotient : Binds K d__quotient ["one", "other"] []
  g__quotient : mg "_quotient" = some (.ref f__quotient)
  f__floor : Addr
  d__floor : FuncData
  F__floor : Fun K "_floor" "_floor" s__floor f__floor d__floor
  b__floor : Binds K d__floor ["share"] []
  g__floor : mg "_floor" = some (.ref f__floor)
  f_Share_init : Addr
  d_Share_init : FuncData
  F_Share_init : FunD K "__init__" "Share.__init__" (defArgs s_Share_init) (defBody s_Share_init) (defScope s_Share_init) [.int 1] [] f_Share_init d_Share_init
  b_Share_init : Binds K d_Share_init ["self", "top", "bottom"] []
  bd_Share_init : ∃ ds, Vals [.int 1] ds ∧ Binds K d_Share_init ["self", "top", "bottom"] ds
  m_Share_init : PySem.W.findIn K (.ref C_Share) "__init__" = some (some (.ref f_Share_init))
  i_Share_init : PySem.W.isFn K (.ref f_Share_init) = true
  f_Share_floordiv : Addr
  d_Share_floordiv : FuncData
  F_Share_floordiv : Fun K "__floordiv__" "Share.__floordiv__" s_Share_floordiv f_Share_floordiv d_Share_floordiv
  m_Share_floordiv : PySem.W.findIn K (.ref C_Share) "__floordiv__" = some (some (.ref f_Share_floordiv))
  i_Share_floordiv : PySem.W.isFn K (.ref f_Share_floordiv) = true
  b_Share_floordiv : Binds K d_Share_floordiv ["self", "other"] []
  f_Share_rfloordiv : Addr
  d_Share_rfloordiv : FuncData
  F_Share_rfloordiv : Fun K "__rfloordiv__" "Share.__rfloordiv__" s_Share_rfloordiv f_Share_rfloordiv d_Share_rfloordiv
  m_Share_rfloordiv : PySem.W.findIn K (.ref C_Share) "__rfloordiv__" = some (some (.ref f_Share_rfloordiv))
  i_Share_rfloordiv : PySem.W.isFn K (.ref f_Share_rfloordiv) = true
  b_Share_rfloordiv : Binds K d_Share_rfloordiv ["self", "other"] []
  f_Share_over : Addr
  d_Share_over : FuncData
  F_Share_over : Fun K "over" "Share.over" s_Share_over f_Share_over d_Share_over
  m_Share_over : PySem.W.findIn K (.ref C_Share) "over" = some (some (.ref f_Share_over))
  i_Share_over : PySem.W.isFn K (.ref f_Share_over) = true
  b_Share_over : Binds K d_Share_over ["self", "other"] []
  f__law_source : Addr
  d__law_source : FuncData
  F__law_source : Fun K "_law_source" "_law_source" s__law_source f__law_source d__law_source
  b__law_source : Binds K d__law_source ["_law_script"] []
  g__law_source : mg "_law_source" = some (.ref f__law_source)
  f__law_take : Addr
  d__law_take : FuncData
  F__law_take : Fun K "_law_take" "_law_take" s__law_take f__law_take d__law_take
  b__law_take : Binds K d__law_take ["_law_source_here", "_law_many"] []
  g__law_take : mg "_law_take" = some (.ref f__law_take)
  f__law_same : Addr
  d__law_same : FuncData
  F__law_same : Fun K "_law_same" "_law_same" s__law_same f__law_same d__law_same
  b__law_same : Binds K d__law_same ["_law_one", "_law_other"] []
  g__law_same : mg "_law_same" = some (.ref f__law_same)
  f__law_gcd : Addr
  d__law_gcd : FuncData
  F__law_gcd : Fun K "_law_gcd" "_law_gcd" s__law_gcd f__law_gcd d__law_gcd
  b__law_gcd : Binds K d__law_gcd ["_law_one", "_law_other"] []
  g__law_gcd : mg "_law_gcd" = some (.ref f__law_gcd)
  f__law_is_share : Addr
  d__law_is_share : FuncData
  F__law_is_share : Fun K "_law_is_share" "_law_is_share" s__law_is_share f__law_is_share d__law_is_share
  b__law_is_share : Binds K d__law_is_share ["_law_share", "_law_top", "_law_bottom"] []
  g__law_is_share : mg "_law_is_share" = some (.ref f__law_is_share)
  f__law_number : Addr
  d__law_number : FuncData
  F__law_number : Fun K "_law_number" "_law_number" s__law_number f__law_number d__law_number
  b__law_number : Binds K d__law_number ["_law_source_here", "_law_parts"] []
  g__law_number : mg "_law_number" = some (.ref f__law_number)
  f__law_fraction : Addr
  d__law_fraction : FuncData
  F__law_fraction : Fun K "_law_fraction" "_law_fraction" s__law_fraction f__law_fraction d__law_fraction
  b__law_fraction : Binds K d__law_fraction ["_law_source_here", "_law_parts"] []
  g__law_fraction : mg "_law_fraction" = some (.ref f__law_fraction)
  f__law_first : Addr
  d__law_first : FuncData
  F__law_first : Fun K "_law_first" "_law_first" s__law_first f__law_first d__law_first
  b__law_first : Binds K d__law_first ["_law_source_here", "_law_second"] []
  g__law_first : mg "_law_first" = some (.ref f__law_first)
  f__law_right_error : Addr
  d__law_right_error : FuncData
  F__law_right_error : Fun K "_law_right_error" "_law_right_error" s__law_right_error f__law_right_error d__law_right_error
  b__law_right_error : Binds K d__law_right_error ["_law_error"] []
  g__law_right_error : mg "_law_right_error" = some (.ref f__law_right_error)
  f__law_no_floor : Addr
  d__law_no_floor : FuncData
  F__law_no_floor : Fun K "_law_no_floor" "_law_no_floor" s__law_no_floor f__law_no_floor d__law_no_floor
  b__law_no_floor : Binds K d__law_no_floor ["_law_one", "_law_other"] []
  g__law_no_floor : mg "_law_no_floor" = some (.ref f__law_no_floor)
  f__law_no_over : Addr
  d__law_no_over : FuncData
  F__law_no_over : Fun K "_law_no_over" "_law_no_over" s__law_no_over f__law_no_over d__law_no_over
  b__law_no_over : Binds K d__law_no_over ["_law_one", "_law_other"] []
  g__law_no_over : mg "_law_no_over" = some (.ref f__law_no_over)
  f__law_quotients : Addr
  d__law_quotients : FuncData
  F__law_quotients : Fun K "_law_quotients" "_law_quotients" s__law_quotients f__law_quotients d__law_quotients
  b__law_quotients : Binds K d__law_quotients ["_law_one", "_law_other", "_law_p", "_law_q"] []
  g__law_quotients : mg "_law_quotients" = some (.ref f__law_quotients)
  f__law_under : Addr
  d__law_under : FuncData
  F__law_under : Fun K "_law_under" "_law_under" s__law_under f__law_under d__law_under
  b__law_under : Binds K d__law_under ["_law_number_here", "_law_other", "_law_q"] []
  g__law_under : mg "_law_under" = some (.ref f__law_under)
  f_law : Addr
  d_law : FuncData
  F_law : Fun K "law" "law" s_law f_law d_law
  b_law : Binds K d_law ["_law_script"] []
  g_law : mg "law" = some (.ref f_law)
  r_Share_floordiv : ROp K C_Share f_Share_floordiv f_Share_rfloordiv "floordiv"
  t_MOST_DIGITS : Tok
  v_MOST_DIGITS : mg "MOST_DIGITS" = some (.int 60 t_MOST_DIGITS)
  C_HornError : Addr
  g_HornError : mg "HornError" = some (.ref C_HornError)
  C_BadShare : Addr
  i_BadShare : Addr
  E_BadShare : Cls1 P K mg "BadShare" C_BadShare i_BadShare ea_BadShare eb_BadShare (scope1 "text")
  o_BadShare : PySem.W.findIn K (.ref C_BadShare) "text" = some none
  x_BadShare : ExcC K C_BadShare
  C_ZeroBelow : Addr
  i_ZeroBelow : Addr
  E_ZeroBelow : Cls1 P K mg "ZeroBelow" C_ZeroBelow i_ZeroBelow ea_ZeroBelow eb_ZeroBelow scope0
  x_ZeroBelow : ExcC K C_ZeroBelow
  k_BadShare_BadShare : ∃ b, PySem.W.kitOne K (.ref C_BadShare) (.ref C_BadShare) = some b ∧ b = true
  k_BadShare_HornError : ∃ b, PySem.W.kitOne K (.ref C_BadShare) (.ref C_HornError) = some b ∧ b = true
  k_BadShare_ValueError : ∃ b, PySem.W.kitOne K (.ref C_BadShare) (.type "ValueError") = some b ∧ b = true
  k_ZeroBelow_BadShare : ∃ b, PySem.W.kitOne K (.ref C_ZeroBelow) (.ref C_BadShare) = some b ∧ b = false
  k_ZeroBelow_HornError : ∃ b, PySem.W.kitOne K (.ref C_ZeroBelow) (.ref C_HornError) = some b ∧ b = true
  k_ZeroBelow_ValueError : ∃ b, PySem.W.kitOne K (.ref C_ZeroBelow) (.type "ValueError") = some b ∧ b = true
  n_NotImplemented : mg "NotImplemented" = none
  n_ValueError : mg "ValueError" = none
  n_abs : mg "abs" = none
  n_all : mg "all" = none
  n_bool : mg "bool" = none
  n_int : mg "int" = none
  n_isinstance : mg "isinstance" = none
  n_len : mg "len" = none
  n_list : mg "list" = none
  n_range : mg "range" = none
  n_staticmethod : mg "staticmethod" = none
  n_str : mg "str" = none
  n_super : mg "super" = none
  n_tuple : mg "tuple" = none
/-- the law gets a list of at most 63 ints and hands back True -/
def spLaw (K : PySem.W.Frag) : Sp := fun vs H Q _ => ∃ (a : Addr) (ns : List Int), vs = [.ref a] ∧ SqL K H a (ns.map V.int) ∧ ns.length ≤ 63 ∧ ∀ H', Q (.bl true) H'
section
variable {P : Program} {w : World} {K : PySem.W.Frag} {mg : Str → Option Value} {base : Heap}
/-! ### lowest terms -/
/-- the common factor with the bottom's sign -/
def com (t b : Int) : Int := if b < 0 then -((Nat.gcd t.natAbs b.natAbs : Nat) : Int) else ((Nat.gcd t.natAbs b.natAbs : Nat) : Int)
def lowT (t b : Int) : Int := t.fdiv (com t b)
def lowB (t b : Int) : Int := b.fdiv (com t b)
/-- Euclid by floor rests, at most n steps -/
def gcdF : Nat → Int → Int → Int
  | 0, _, _ => 1
  | n + 1, a, b => if b = 0 then (if a < 0 then -a else a) else gcdF n b (a.fmod b)
theorem absI (a : Int) : (if a < 0 then -a else a) = (a.natAbs : Int) := by
  split <;> omega
theorem com_ne {t b : Int} (h : b ≠ 0) : com t b ≠ 0 := by
  have g : 0 < Nat.gcd t.natAbs b.natAbs := Nat.gcd_pos_of_pos_right _ (by omega)
  unfold com
  split <;> omega
theorem com_abs (t b : Int) : (com t b).natAbs = Nat.gcd t.natAbs b.natAbs := by
  unfold com
  split <;> omega
theorem com_le {t b : Int} (h : b ≠ 0) : (com t b).natAbs ≤ b.natAbs := by
  rw [com_abs]
  exact Nat.le_of_dvd (by omega) (Nat.gcd_dvd_right _ _)
theorem com_dvdT (t b : Int) : com t b ∣ t := Int.natAbs_dvd_natAbs.mp (by rw [com_abs]; exact Nat.gcd_dvd_left _ _)
theorem com_dvdB (t b : Int) : com t b ∣ b := Int.natAbs_dvd_natAbs.mp (by rw [com_abs]; exact Nat.gcd_dvd_right _ _)
theorem fdiv_le {t c : Int} (h : c ≠ 0) (d : c ∣ t) : (t.fdiv c).natAbs ≤ t.natAbs := by
  obtain ⟨q, rfl⟩ := d
  rw [Int.mul_fdiv_cancel_left _ h, Int.natAbs_mul]
  exact Nat.le_mul_of_pos_left _ (by omega)
theorem lowT_le {t b : Int} (h : b ≠ 0) : (lowT t b).natAbs ≤ t.natAbs := fdiv_le (com_ne h) (com_dvdT t b)
theorem lowB_le {t b : Int} (h : b ≠ 0) : (lowB t b).natAbs ≤ b.natAbs := fdiv_le (com_ne h) (com_dvdB t b)
theorem com_mul (t b : Int) {f : Int} (hf : f ≠ 0) (hb : b ≠ 0) : com (t * f) (b * f) = com t b * f := by
  have e : Nat.gcd (t * f).natAbs (b * f).natAbs = Nat.gcd t.natAbs b.natAbs * f.natAbs := by
    rw [Int.natAbs_mul, Int.natAbs_mul, Nat.gcd_mul_right]
  unfold com
  rw [e]
  rcases Int.lt_or_gt_of_ne hf with h | h <;> rcases Int.lt_or_gt_of_ne hb with h2 | h2
  · have z : 0 < b * f := Int.mul_pos_of_neg_of_neg h2 h
    rw [if_neg (by omega), if_pos h2]
    have y : (f.natAbs : Int) = -f := by omega
    rw [Int.natCast_mul, y, Int.mul_neg, Int.neg_mul]
  · have z : b * f < 0 := Int.mul_neg_of_pos_of_neg h2 h
    rw [if_pos z, if_neg (by omega)]
    have y : (f.natAbs : Int) = -f := by omega
    rw [Int.natCast_mul, y, Int.mul_neg, Int.neg_neg]
  · have z : b * f < 0 := Int.mul_neg_of_neg_of_pos h2 h
    rw [if_pos z, if_pos h2]
    have y : (f.natAbs : Int) = f := by omega
    rw [Int.natCast_mul, y, Int.neg_mul]
  · have z : 0 < b * f := Int.mul_pos h2 h
    rw [if_neg (by omega), if_neg (by omega)]
    have y : (f.natAbs : Int) = f := by omega
    rw [Int.natCast_mul, y]
theorem fdiv_cancel (t : Int) {c f : Int} (hf : f ≠ 0) (hc : c ≠ 0) (d : c ∣ t) : (t * f).fdiv (c * f) = t.fdiv c := by
  obtain ⟨q, rfl⟩ := d
  rw [Int.mul_fdiv_cancel_left _ hc]
  have e : c * q * f = c * f * q := by rw [Int.mul_assoc, Int.mul_comm q f, ← Int.mul_assoc]
  rw [e, Int.mul_fdiv_cancel_left _ (Int.mul_ne_zero hc hf)]
theorem lowT_mul (t b : Int) {f : Int} (hf : f ≠ 0) (hb : b ≠ 0) : lowT (t * f) (b * f) = lowT t b := by
  unfold lowT
  rw [com_mul t b hf hb]
  exact fdiv_cancel t hf (com_ne hb) (com_dvdT t b)
theorem lowB_mul (t b : Int) {f : Int} (hf : f ≠ 0) (hb : b ≠ 0) : lowB (t * f) (b * f) = lowB t b := by
  unfold lowB
  rw [com_mul t b hf hb]
  exact fdiv_cancel b hf (com_ne hb) (com_dvdB t b)
theorem gcd_step (a b : Int) : Nat.gcd b.natAbs (a.fmod b).natAbs = Nat.gcd a.natAbs b.natAbs := by
  have e : a.fmod b = a + b * (-(a.fdiv b)) := by
    have z := Int.fmod_add_mul_fdiv a b
    rw [Int.mul_neg]
    omega
  show Int.gcd b (a.fmod b) = Int.gcd a b
  rw [e, Int.gcd_add_mul_left_right, Int.gcd_comm]
theorem half {b r : Int} (hr : r ≠ 0) (hs : (0 < b ∧ 0 < r ∧ r < b) ∨ (b < 0 ∧ r < 0 ∧ b < r)) : 2 * (b.fmod r).natAbs < b.natAbs := by
  have key : ∀ x y : Nat, 0 < y → y < x → 2 * (x % y) < x := fun x y h0 h1 => by
    have a1 := Nat.mod_lt x h0
    have a2 := Nat.div_add_mod x y
    have a3 : 1 ≤ x / y := (Nat.le_div_iff_mul_le h0).mpr (by omega)
    have a4 : y ≤ y * (x / y) := Nat.le_mul_of_pos_right _ a3
    omega
  rcases hs with ⟨h1, h2, h3⟩ | ⟨h1, h2, h3⟩
  · obtain ⟨x, rfl⟩ : ∃ x : Nat, b = (x : Int) := ⟨b.toNat, by omega⟩
    obtain ⟨y, rfl⟩ : ∃ y : Nat, r = (y : Int) := ⟨r.toNat, by omega⟩
    rw [Int.fmod_eq_emod_of_nonneg _ (by omega)]
    have := key x y (by omega) (by omega)
    have e : ((x : Int) % (y : Int)).natAbs = x % y := by
      rw [← Int.natCast_emod]
      rfl
    rw [e]
    omega
  · obtain ⟨x, rfl⟩ : ∃ x : Nat, b = -(x : Int) := ⟨(-b).toNat, by omega⟩
    obtain ⟨y, rfl⟩ : ∃ y : Nat, r = -(y : Int) := ⟨(-r).toNat, by omega⟩
    rw [Int.neg_fmod_neg, Int.fmod_eq_emod_of_nonneg _ (by omega)]
    have := key x y (by omega) (by omega)
    have e : (-((x : Int) % (y : Int))).natAbs = x % y := by
      rw [← Int.natCast_emod, Int.natAbs_neg]
      rfl
    rw [e]
    omega
theorem fmod_sign (a : Int) {b : Int} (h : b ≠ 0) (hr : a.fmod b ≠ 0) : (0 < b ∧ 0 < a.fmod b ∧ a.fmod b < b) ∨ (b < 0 ∧ a.fmod b < 0 ∧ b < a.fmod b) := by
  rcases Int.lt_or_gt_of_ne h with h1 | h1
  · right
    have e : a.fmod b = -((-a).fmod (-b)) := by
      have z := Int.neg_fmod_neg (-a) (-b)
      simp only [Int.neg_neg] at z
      exact z
    have l := Int.fmod_nonneg_of_pos (-a) (b := -b) (by omega)
    have u := Int.fmod_lt_of_pos (-a) (b := -b) (by omega)
    refine ⟨h1, ?_, ?_⟩ <;> omega
  · left
    have l := Int.fmod_nonneg_of_pos a (b := b) h1
    have u := Int.fmod_lt_of_pos a (b := b) h1
    refine ⟨h1, ?_, ?_⟩ <;> omega
theorem gcdF_eq : ∀ (k n : Nat) (a b : Int), b.natAbs < 2 ^ k → 2 * k + 1 ≤ n → gcdF n a b = ((Nat.gcd a.natAbs b.natAbs : Nat) : Int) := by
  intro k
  induction k with
  | zero =>
    intro n a b hb hn
    obtain ⟨m, rfl⟩ : ∃ m, n = m + 1 := ⟨n - 1, by omega⟩
    have e : b = 0 := by omega
    subst e
    unfold gcdF
    rw [if_pos rfl, absI]
    simp
  | succ k ih =>
    intro n a b hb hn
    obtain ⟨m, rfl⟩ : ∃ m, n = m + 3 := ⟨n - 3, by omega⟩
    unfold gcdF
    by_cases e : b = 0
    · subst e
      rw [if_pos rfl, absI]
      simp
    · rw [if_neg e, ← gcd_step a b]
      unfold gcdF
      by_cases e2 : a.fmod b = 0
      · rw [if_pos e2, e2, absI]
        simp
      · rw [if_neg e2, ← gcd_step b (a.fmod b)]
        refine ih _ _ _ ?_ (by omega)
        have z := half e2 (fmod_sign a e e2)
        have p : 2 ^ (k + 1) = 2 * 2 ^ k := by rw [Nat.pow_succ, Nat.mul_comm]
        omega
/-! ### a share -/
def fS (t b : Int) : List (Str × V) := [("top", .int t), ("bottom", .int b)]
/-- a share of class C with these two fields stands at x -/
def ShrAt (C : Addr) (H : Hp) (x : Addr) (t b : Int) : Prop := ∃ dx, H x = some (.ins C dx (fS t b))
theorem ShrAt.mono {C x : Addr} {H H' : Hp} {t b : Int} (S : ShrAt C H x t b) (e : Evl.Ex H H') : ShrAt C H' x t b := by
  obtain ⟨dx, h⟩ := S
  exact ⟨dx, e _ _ h⟩
def Sz (i : Int) : Prop := i.natAbs < 2 ^ 420
theorem log_of {n k : Nat} (h : n < 2 ^ k) (h0 : 0 < k) : n.log2 < k := by
  by_cases e : n = 0
  · subst e
    simpa using h0
  · exact (Nat.log2_lt e).mpr h
theorem Sz.log {i : Int} (h : Sz i) : i.natAbs.log2 < 1920 := Nat.lt_trans (log_of h (by decide)) (by decide)
theorem sz_small {i : Int} (h : i.natAbs < 10 ^ 100) : Sz i := Nat.lt_trans h (by decide +kernel)
theorem Sz.le {i j : Int} (h : Sz j) (l : i.natAbs ≤ j.natAbs) : Sz i := Nat.lt_of_le_of_lt l h
theorem Sz.div {i j : Int} (h : Sz j) (h0 : j ≠ 0) : CDivX i j := ⟨h0, Nat.lt_trans (log_of h (by decide)) (by decide)⟩
theorem Sz.com {t b : Int} (h : Sz b) (h0 : b ≠ 0) : Sz (com t b) := h.le (com_le h0)
theorem Sz.top {t b : Int} (h : Sz t) (h0 : b ≠ 0) : Sz (lowT t b) := h.le (lowT_le h0)
theorem Sz.bot {t b : Int} (h : Sz b) (h0 : b ≠ 0) : Sz (lowB t b) := h.le (lowB_le h0)
theorem int_len {i : Int} {k : Nat} (hk : 0 < k) (h : i.natAbs < 10 ^ k) : (Str.ofString (toString i)).length ≤ k + 1 := by
  have y : ((i.natAbs : Nat) : Int) < ((10 ^ k : Nat) : Int) := by exact_mod_cast h
  by_cases h0 : 0 ≤ i
  · have e : (i.natAbs : Int) = i := by omega
    rw [e] at y
    have z := PyProof.Rows.toString_length_le h0 hk (by simpa using y)
    omega
  · rw [PyProof.Rows.toString_neg (by omega)]
    have e : (i.natAbs : Int) = 0 - i := by omega
    rw [e] at y
    have z := PyProof.Rows.toString_length_le (v := 0 - i) (by omega) hk (by simpa using y)
    rw [PyProof.Rows.ofString_len] at z ⊢
    rw [String.length_append]
    have : ("-" : String).length = 1 := rfl
    omega
theorem Sz.len {i : Int} (h : Sz i) : (Str.ofString (toString i)).length ≤ 129 := int_len (k := 128) (by decide) (Nat.lt_trans h (by decide +kernel))
theorem lineS {n : Nat} (h : n ≤ 1000) : n ≤ sizeLine := by
  rw [sizeLine_eq]
  omega
theorem emp_app (a : Str) : Str.empty ++ a = a := by
  cases a with
  | mk c =>
    show Str.mk (#[] ++ c) = Str.mk c
    simp
/-- Share.__init__(self, top, bottom) -/
def spInit (C CZ : Addr) : Sp := fun vs H Q E => ∃ (x dx : Addr) (t b : Int), vs = [.ref x, .int t, .int b] ∧ H x = some (.ins C dx []) ∧ Sz t ∧ Sz b ∧
  (b ≠ 0 → ∀ H', (∀ c o, c ≠ x → H c = some o → H' c = some o) → H' x = some (.ins C dx (fS (lowT t b) (lowB t b))) → Q .non H') ∧ (b = 0 → E (.ref CZ) none H)
theorem ok_Share_init (T : Txt P K mg) : FnOk P w K mg base (L2N.CX P w) 2 T.f_Share_init T.d_Share_init ["self", "top", "bottom"] (spInit T.C_Share T.C_ZeroBelow) := by
  refine T.F_Share_init.ok sc_Share_init (fun vs H Q E h => ?_) (fun cdv A outer s H vs Q E hr h => ?_)
  · obtain ⟨x, dx, t, b, rfl, _⟩ := h
    rfl
  · obtain ⟨x, dx, t, b, rfl, hx, st, sb, q, e⟩ := h
    refine ⟨_, (pss_cons (ps_if (pt_cmpR op_eq (pv 2) pe_int (nomark _)) (pss_one (L2N.ps_raise rfl (L2N.takes_of rfl rfl rfl rfl) (pmk0 T.E_ZeroBelow (fun _ => msg_c) rfl hr rfl (by decide)))) pss_nil)
      (pss_cons (ps_set (i := 3) sc_Share_init.nd rfl (.inl rfl) (pe_callBfun cr_gcd (by rfl) T.v_gcd (pa_cons (pv 1) (pa_cons (pv 2) pa_nil))))
      (pss_cons (ps_if (pt_cmpR op_lt (pv 2) pe_int (nomark _)) (pss_one (ps_set (i := 3) sc_Share_init.nd rfl (.inl rfl) (pe_un un_neg (pv 3)))) pss_nil)
      (pss_cons (ps_fld (pv 0) (pe_op op_fdivX (pv 1) (pv 3)) rfl)
      (pss_one (ps_fld (pv 0) (pe_op op_fdivX (pv 2) (pv 3)) rfl)))))), ?_⟩
    refine ⟨_, rfl, rfl, _, rfl, ite2 (fun z => ?_) (fun z => ?_)⟩
    · exact e (by simpa using z)
    · have hb : b ≠ 0 := by simpa using z
      refine ⟨_, rfl, _, rfl, t, b, rfl, ?_⟩
      have fin : ∀ c : Int, c = com t b → (fun σ H' => tSeq (sFld K (tVar 0) (tOp (rI CDivX fun i j => .int (i.fdiv j)) (tVar 1) (tVar 3)) "top") (sFld K (tVar 0) (tOp (rI CDivX fun i j => .int (i.fdiv j)) (tVar 2) (tVar 3)) "bottom") { nx := fun _ H' => Q .non H', rt := Q } σ H') [some (.ref x), some (.int t), some (.int b), some (.int c)] H := fun c hc => by
        subst hc
        refine ⟨_, rfl, _, rfl, _, _, rfl, rfl, (sb.com hb).div (com_ne hb), .ref x, rfl, x, _, dx, _, rfl, hx, T.cl_Share, T.na_Share_top, (by show 0 < 1000; decide), ?_⟩
        refine ⟨_, rfl, _, rfl, _, _, rfl, rfl, (sb.com hb).div (com_ne hb), .ref x, rfl, x, _, dx, _, rfl, upd_same, T.cl_Share, T.na_Share_bottom, (by show 1 < 1000; decide), ?_⟩
        rw [upd_upd]
        refine q hb _ (fun c o n hc => ?_) ?_
        · rw [upd_ne n]
          exact hc
        · rw [upd_same]
          rfl
      refine ⟨_, rfl, _, _, rfl, rfl, _, rfl, ite2 (fun z2 => ?_) (fun z2 => ?_)⟩
      · have z3 : b < 0 := by simpa using z2
        exact ⟨_, rfl, _, rfl, fin _ (by unfold com; rw [if_pos z3])⟩
      · have z3 : ¬ b < 0 := by simpa using z2
        exact fin _ (by unfold com; rw [if_neg z3])
/-! ### the source of drawn numbers -/
/-- what stands at b and is not a stands as before -/
def But (a : Addr) (H H' : Hp) : Prop := ∀ b o, b ≠ a → H b = some o → H' b = some o
theorem But.refl {a : Addr} {H : Hp} : But a H H := fun _ _ _ h => h
theorem But.trans {a : Addr} {H H1 H2 : Hp} (x : But a H H1) (y : But a H1 H2) : But a H H2 := fun b o n h => y b o n (x b o n h)
theorem But.upd {a : Addr} {H H1 : Hp} {o : HO} (x : But a H H1) : But a H (upd H1 a o) := fun b u n h => by
  rw [upd_ne n]
  exact x b u n h
theorem But.new {a p : Addr} {H H1 : Hp} {o u : HO} (x : But a H H1) (ha : H1 a = some u) (hp : H1 p = none) : But a H (L2.upd H1 p o) := fun b v n h => by
  rw [upd_ne (ne_of_none (x b v n h) hp)]
  exact x b v n h
theorem But.of {a : Addr} {H H1 : Hp} (x : Same H H1) : But a H H1 := fun b o _ h => x b o h
/-- the script's list at l beside four ints -/
def five (l : Addr) (i x k m : Int) : List V := [.ref l, .int i, .int x, .int k, .int m]
structure SrcL (H : Hp) (a l : Addr) (ns : List Int) : Prop where
  at_ : ∃ i x k m : Int, 0 ≤ i ∧ H a = some (.lst (five l i x k m))
  li : H l = some (.lst (ns.map V.int))
theorem src_ne {H : Hp} {a l : Addr} {ns : List Int} (S : SrcL H a l ns) : l ≠ a := fun e => by
  obtain ⟨i, x, k, m, _, h⟩ := S.at_
  have h2 := S.li
  rw [e, h] at h2
  have h3 := HO.lst.inj (Option.some.inj h2)
  cases ns with
  | nil => exact absurd h3 (by simp [five])
  | cons y r =>
    have h4 := (List.cons.inj h3).1
    cases h4
/-- a source at a -/
def Src (H : Hp) (a : Addr) : Prop := ∃ (l : Addr) (ns : List Int), SrcL H a l ns
theorem Src.keep {H H' : Hp} {a : Addr} (S : Src H a) (k : Same H H') : Src H' a := by
  obtain ⟨l, ns, ⟨i, x, j, m, h0, h⟩, hl⟩ := S
  exact ⟨l, ns, ⟨i, x, j, m, h0, k _ _ h⟩, k _ _ hl⟩
theorem Src.new {H : Hp} {a p : Addr} {o : HO} (S : Src H a) (hp : H p = none) : Src (upd H p o) a := S.keep fun b u h => by
  rw [upd_ne (ne_of_none h hp)]
  exact h
theorem Src.some {H : Hp} {a : Addr} (S : Src H a) : ∃ o, H a = Option.some o := by
  obtain ⟨l, ns, ⟨i, x, k, m, h0, h⟩, hl⟩ := S
  exact ⟨_, h⟩
/-- _law_take(source, many) -/
def spTake : Sp := fun vs H Q _ => ∃ (a : Addr) (many : Int), vs = [.ref a, .int many] ∧ Src H a ∧ 1 ≤ many ∧ many < 2 ^ 64 ∧ ∀ H' r, 0 ≤ r → r < many → Src H' a → But a H H' → Q (.int r) H'
theorem src_upd {H : Hp} {a l : Addr} {ns : List Int} {i x k m : Int} (hl : H l = some (.lst (ns.map V.int))) (n : l ≠ a) (h0 : 0 ≤ i) : Src (upd H a (.lst (five l i x k m))) a :=
  ⟨l, ns, ⟨i, x, k, m, h0, upd_same⟩, by rw [upd_ne n]; exact hl⟩
theorem fmod_lo (x : Int) {m : Int} (h : 1 ≤ m) : 0 ≤ x.fmod m := Int.fmod_nonneg_of_pos x (by omega)
theorem fmod_hi (x : Int) {m : Int} (h : 1 ≤ m) : x.fmod m < m := Int.fmod_lt_of_pos x (by omega)
/-- the second half of _law_take, from a source that stands -/
theorem ok__law_take (T : Txt P K mg) : FnOk P w K mg base CX0 1 T.f__law_take T.d__law_take ["_law_source_here", "_law_many"] spTake := by
  refine T.F__law_take.ok sc__law_take (fun vs H Q E h => ?_) (fun cdv A outer s H vs Q E hr h => ?_)
  · obtain ⟨a, many, rfl, _⟩ := h
    rfl
  · obtain ⟨a, many, rfl, ⟨l, ns, S⟩, h1, h64, q⟩ := h
    have nla := src_ne S
    obtain ⟨⟨i, x, k, m, hi0, h⟩, hl⟩ := S
    refine ⟨_, (Evl.pss_cut (ps_if (pt_cmpR op_eq (pe_ix ix_list (pv 0) pe_int (fun _ _ => rfl)) pe_int (nomark _)) (pss_cons (ps_if (pt_cmpR op_ge (pe_ix ix_list (pv 0) pe_int (fun _ _ => rfl)) (pe_callB call_len_seq (by rfl) T.n_len PySem.boot_len (pa_cons (pe_ix ix_list (pv 0) pe_int (fun _ _ => rfl)) pa_nil)) (nomark _)) (pss_one (ps_ret pe_int)) pss_nil)
      (pss_cons (ps_set (i := 3) sc__law_take.nd rfl (.inl rfl) (pe_callTy call_int1 (by rfl) T.n_int (by decide +kernel) (pa_cons (pe_ix ix_list (pe_ix ix_list (pv 0) pe_int (fun _ _ => rfl)) (pe_ix ix_list (pv 0) pe_int (fun _ _ => rfl)) (fun _ _ => rfl)) pa_nil)))
      (pss_cons (ps_asg (pe_op op_add (pe_ix ix_list (pv 0) pe_int (fun _ _ => rfl)) pe_int) (pg_sub (pv 0) pe_int set_list))
      (pss_cons (ps_asg (pv 3) (pg_sub (pv 0) pe_int set_list))
      (pss_cons (ps_asg pe_int (pg_sub (pv 0) pe_int set_list))
      (pss_cons (ps_asg pe_int (pg_sub (pv 0) pe_int set_list))
      (pss_one (ps_if (pt_cmpR op_ge (pv 3) (pe_op op_pow pe_int pe_int) (nomark _)) (pss_cons (ps_asg pe_int (pg_sub (pv 0) pe_int set_list))
      (pss_one (ps_asg pe_int (pg_sub (pv 0) pe_int set_list)))) pss_nil)))))))) pss_nil)
      (pss_cons (ps_asg (pe_op op_sub (pe_ix ix_list (pv 0) pe_int (fun _ _ => rfl)) pe_int) (pg_sub (pv 0) pe_int set_list))
      (pss_cons (ps_if (pt_cmpR op_eq (pe_ix ix_list (pv 0) pe_int (fun _ _ => rfl)) pe_int (nomark _)) (pss_cons (ps_set (i := 4) sc__law_take.nd rfl (.inl rfl) (pe_op op_modN (pe_callTy call_int1 (by rfl) T.n_int (by decide +kernel) (pa_cons (pe_ix ix_list (pv 0) pe_int (fun _ _ => rfl)) pa_nil)) (pv 1)))
      (pss_cons (ps_asg (pe_op op_fdivW (pe_ix ix_list (pv 0) pe_int (fun _ _ => rfl)) (pv 1)) (pg_sub (pv 0) pe_int set_list))
      (pss_cons (ps_if (pt_cmpR op_eq (pe_ix ix_list (pv 0) pe_int (fun _ _ => rfl)) pe_int (nomark _)) (pss_one (ps_asg pe_int (pg_sub (pv 0) pe_int set_list))) pss_nil)
      (pss_one (ps_ret (pv 4)))))) pss_nil)
      (pss_cons (ps_set (i := 2) sc__law_take.nd rfl (.inl rfl) (pe_op op_modN (pe_callTy call_int1 (by rfl) T.n_int (by decide +kernel) (pa_cons (pe_op op_add (pe_op op_add (pe_op op_mul (pe_ix ix_list (pv 0) pe_int (fun _ _ => rfl)) pe_int) (pe_op op_mul (pe_ix ix_list (pv 0) pe_int (fun _ _ => rfl)) pe_int)) pe_int) pa_nil)) pe_int))
      (pss_cons (ps_set (i := 2) sc__law_take.nd rfl (.inl rfl) (pe_op op_modN (pe_callTy call_int1 (by rfl) T.n_int (by decide +kernel) (pa_cons (pe_op op_add (pe_op op_add (pe_op op_mul (pv 2) pe_int) (pe_op op_mul (pe_ix ix_list (pv 0) pe_int (fun _ _ => rfl)) pe_int)) pe_int) pa_nil)) pe_int))
      (pss_one (ps_ret (pe_op op_modN (pe_callTy call_int1 (by rfl) T.n_int (by decide +kernel) (pa_cons (pv 2) pa_nil)) (pv 1))))))))), ?_⟩
    refine ⟨fun σ' H' => ∃ (cv : Option V) (i x k m : Int), σ' = [some (.ref a), some (.int many), none, cv, none] ∧ 0 ≤ i ∧ H' a = some (.lst (five l i x k m)) ∧ H' l = some (.lst (ns.map V.int)) ∧ But a H H', ?_, ?_⟩
    · refine ⟨.ref a, rfl, a, _, 3, _, rfl, rfl, SqL.of h, atI_nat (j := 3) rfl, rfl, _, rfl, ite2 (fun e => ?_) (fun e => ?_)⟩
      · refine ⟨.ref a, rfl, a, _, 1, _, rfl, rfl, SqL.of h, atI_nat (j := 1) rfl, .ref a, rfl, a, _, 0, _, rfl, rfl, SqL.of h, atI_nat (j := 0) rfl, l, _, rfl, .inl (SqL.of hl), _, _, rfl, rfl, _, rfl, ite2 (fun e1 => ?_) (fun e1 => ?_)⟩
        · exact q H 0 (by omega) (by omega) ⟨l, ns, ⟨⟨i, x, k, m, hi0, h⟩, hl⟩⟩ But.refl
        · have hin : i.toNat < ns.length := by
            have z : ¬ ((ns.map V.int).length : Int) ≤ i := fun z => e1 (decide_eq_true z)
            rw [List.length_map] at z
            omega
          have hg : (ns.map V.int)[i.toNat]? = some (.int ns[i.toNat]) := by
            rw [List.getElem?_map, List.getElem?_eq_getElem hin]
            rfl
          refine ⟨.ref a, rfl, a, _, 0, _, rfl, rfl, SqL.of h, atI_nat (j := 0) rfl, .ref a, rfl, a, _, 1, _, rfl, rfl, SqL.of h, atI_nat (j := 1) rfl, l, _, i, _, rfl, rfl, SqL.of hl, at_of (by omega) hg, .inl ⟨_, rfl, ?_⟩⟩
          refine ⟨.ref a, rfl, a, _, 1, _, rfl, rfl, SqL.of h, atI_nat (j := 1) rfl, _, _, rfl, rfl, .ref a, rfl, a, _, 1, 1, rfl, rfl, h, rfl, ?_⟩
          refine ⟨_, rfl, .ref a, rfl, a, _, 2, 2, rfl, rfl, upd_same, rfl, ?_⟩
          refine ⟨.ref a, rfl, a, _, 3, 3, rfl, rfl, upd_same, rfl, ?_⟩
          refine ⟨.ref a, rfl, a, _, 4, 4, rfl, rfl, upd_same, rfl, ?_⟩
          refine ⟨_, rfl, _, _, rfl, rfl, ⟨by decide, by decide, by decide⟩, _, _, rfl, rfl, _, rfl, ite2 (fun e2 => ?_) (fun e2 => ?_)⟩
          · refine ⟨.ref a, rfl, a, _, 3, 3, rfl, rfl, upd_same, rfl, .ref a, rfl, a, _, 4, 4, rfl, rfl, upd_same, rfl, ?_⟩
            rw [upd_upd, upd_upd, upd_upd, upd_upd, upd_upd]
            exact ⟨_, i + 1, ns[i.toNat], 60, 1, rfl, by omega, upd_same, by rw [upd_ne nla]; exact hl, But.refl.upd⟩
          · rw [upd_upd, upd_upd, upd_upd]
            exact ⟨_, i + 1, ns[i.toNat], 4, 0, rfl, by omega, upd_same, by rw [upd_ne nla]; exact hl, But.refl.upd⟩
      · exact ⟨_, i, x, k, m, rfl, hi0, h, hl, But.refl⟩
    · rintro σ' H0 ⟨cv, i, x, k, m, rfl, hi0, h, hl, bt⟩
      have hl1 : ∀ o, (upd H0 a o) l = some (.lst (ns.map V.int)) := fun o => by
        rw [upd_ne nla]
        exact hl
      refine ⟨.ref a, rfl, a, _, 3, _, rfl, rfl, SqL.of h, atI_nat (j := 3) rfl, _, _, rfl, rfl, .ref a, rfl, a, _, 3, 3, rfl, rfl, h, rfl, ?_⟩
      have h2 : (upd H0 a (.lst ((five l i x k m).set 3 (.int (k - 1))))) a = some (.lst (five l i x (k - 1) m)) := upd_same
      refine ⟨.ref a, rfl, a, _, 4, _, rfl, rfl, SqL.of h2, atI_nat (j := 4) rfl, rfl, _, rfl, ite2 (fun e => ?_) (fun e => ?_)⟩
      · refine ⟨.ref a, rfl, a, _, 2, _, rfl, rfl, SqL.of h2, atI_nat (j := 2) rfl, .inl ⟨_, rfl, _, rfl, _, _, rfl, rfl, by omega, ?_⟩⟩
        refine ⟨.ref a, rfl, a, _, 2, _, rfl, rfl, SqL.of h2, atI_nat (j := 2) rfl, _, rfl, _, _, rfl, rfl, wide_div (b := 64) (by omega) (by omega) (by decide) (by decide), .ref a, rfl, a, _, 2, 2, rfl, rfl, h2, rfl, ?_⟩
        have h3 : ∀ o, (upd (upd H0 a o) a (.lst ((five l i x (k - 1) m).set 2 (.int (x / many))))) a = some (.lst (five l i (x / many) (k - 1) m)) := fun o => upd_same
        refine ⟨.ref a, rfl, a, _, 2, _, rfl, rfl, SqL.of (h3 _), atI_nat (j := 2) rfl, rfl, _, rfl, ite2 (fun e3 => ?_) (fun e3 => ?_)⟩
        · refine ⟨.ref a, rfl, a, _, 3, 3, rfl, rfl, upd_same, rfl, ?_⟩
          rw [upd_upd, upd_upd]
          exact ⟨_, rfl, q _ _ (fmod_lo x h1) (fmod_hi x h1) ⟨l, ns, ⟨⟨i, x / many, 0, m, hi0, upd_same⟩, hl1 _⟩⟩ bt.upd⟩
        · rw [upd_upd]
          exact ⟨_, rfl, q _ _ (fmod_lo x h1) (fmod_hi x h1) ⟨l, ns, ⟨⟨i, x / many, k - 1, m, hi0, upd_same⟩, hl1 _⟩⟩ bt.upd⟩
      · refine ⟨.ref a, rfl, a, _, 2, _, rfl, rfl, SqL.of h2, atI_nat (j := 2) rfl, _, _, rfl, rfl, .inr ⟨by decide, by decide⟩, .ref a, rfl, a, _, 3, _, rfl, rfl, SqL.of h2, atI_nat (j := 3) rfl, _, _, rfl, rfl, .inr ⟨by decide, by decide⟩, _, _, rfl, rfl, _, _, rfl, rfl, .inl ⟨_, rfl, _, _, rfl, rfl, (show (2147483647 : Int) ≠ 0 by decide), ?_⟩⟩
        refine ⟨_, rfl, _, _, rfl, rfl, .inr ⟨by decide, by decide⟩, .ref a, rfl, a, _, 3, _, rfl, rfl, SqL.of h2, atI_nat (j := 3) rfl, _, _, rfl, rfl, .inr ⟨by decide, by decide⟩, _, _, rfl, rfl, _, _, rfl, rfl, .inl ⟨_, rfl, _, _, rfl, rfl, (show (2147483629 : Int) ≠ 0 by decide), ?_⟩⟩
        refine ⟨_, rfl, .inl ⟨_, rfl, _, rfl, _, _, rfl, rfl, by omega, ?_⟩⟩
        exact q _ _ (fmod_lo _ h1) (fmod_hi _ h1) ⟨l, ns, ⟨⟨i, x, k - 1, m, hi0, h2⟩, hl1 _⟩⟩ bt.upd
/-- _law_source(script) -/
def spSource (K : PySem.W.Frag) : Sp := fun vs H Q _ => ∃ (a : Addr) (ns : List Int), vs = [.ref a] ∧ SqL K H a (ns.map V.int) ∧ ∀ H' p, Src H' p → H p = none → Same H H' → Q (.ref p) H'
theorem ok__law_source (T : Txt P K mg) : FnOk P w K mg base CX0 1 T.f__law_source T.d__law_source ["_law_script"] (spSource K) := by
  refine T.F__law_source.ok sc__law_source (fun vs H Q E h => ?_) (fun cdv A outer s H vs Q E hr h => ?_)
  · obtain ⟨a, ns, rfl, _⟩ := h
    rfl
  · obtain ⟨a, ns, rfl, S, q⟩ := h
    refine ⟨_, (pss_one (ps_ret (pe_lst (pa_cons (pe_callTy call_list_of (by rfl) T.n_list (by decide +kernel) (pa_cons (pv 0) pa_nil)) (pa_cons pe_int (pa_cons pe_int (pa_cons pe_int (pa_cons pe_int pa_nil)))))))), ?_⟩
    refine ⟨_, rfl, a, _, rfl, .inl S, fun l nl => ⟨(by show 5 ≤ sizeLine; decide), fun p np => ?_⟩⟩
    have lp : l ≠ p := fun e => by
      rw [e, upd_same] at np
      cases np
    have np0 : H p = none := by
      rw [upd_ne lp.symm] at np
      exact np
    refine q _ p ⟨l, ns, ⟨⟨0, 0, 0, 0, by decide, upd_same⟩, ?_⟩⟩ np0 fun b o e => ?_
    · rw [upd_ne lp, upd_same]
    · rw [upd_ne (ne_of_none e np0), upd_ne (ne_of_none e nl)]
      exact e
/-! ### answers of pure defs -/
def isBl : V → Bool
  | .bl _ => true
  | _ => false
def isIn : V → Bool
  | .int _ => true
  | _ => false
def isSt : V → Bool
  | .str _ => true
  | _ => false
def flat4 : V → Bool
  | .non => true
  | .bl _ => true
  | .int _ => true
  | .str _ => true
  | _ => false
theorem kit_flat {K : PySem.W.Frag} {x : V} (h : flat4 x = true) : ∃ t : String, (∀ H, TyX K H x (.type t)) ∧ kitB t "bool" = some (isBl x) ∧ kitB t "int" = some (isBl x || isIn x) ∧ kitB t "str" = some (isSt x) ∧ kitB t "list" = some false ∧ kitB t "tuple" = some false := by
  cases x with
  | non => exact ⟨"NoneType", fun _ => .base .non, by decide +kernel, by decide +kernel, by decide +kernel, by decide +kernel, by decide +kernel⟩
  | bl b => exact ⟨"bool", fun _ => .base (.bl b), (show kitB "bool" "bool" = some true by decide +kernel), (show kitB "bool" "int" = some true by decide +kernel), (show kitB "bool" "str" = some false by decide +kernel), (show kitB "bool" "list" = some false by decide +kernel), (show kitB "bool" "tuple" = some false by decide +kernel)⟩
  | int i => exact ⟨"int", fun _ => .base (.int i), (show kitB "int" "bool" = some false by decide +kernel), (show kitB "int" "int" = some true by decide +kernel), (show kitB "int" "str" = some false by decide +kernel), (show kitB "int" "list" = some false by decide +kernel), (show kitB "int" "tuple" = some false by decide +kernel)⟩
  | str z => exact ⟨"str", fun _ => .base (.str z), (show kitB "str" "bool" = some false by decide +kernel), (show kitB "str" "int" = some false by decide +kernel), (show kitB "str" "str" = some true by decide +kernel), (show kitB "str" "list" = some false by decide +kernel), (show kitB "str" "tuple" = some false by decide +kernel)⟩
  | byt b => cases h
  | flt b => cases h
  | ref a => cases h
  | ty n => cases h
open Evl in
theorem ev_isi {σ : L2.St} {H : Hp} {ta : TE} {x : V} {t c : String} {b : Bool} (h : Ev ta σ H x) (ht : ∀ H, TyX K H x (.type t)) (hk : kitB t c = some b) : Ev (tCB (rIsi K) (tCons ta (tCons (tC (.ty c)) tNil))) σ H (.bl b) :=
  ev_cb (ea_cons h (ea_cons ev_c ea_nil)) fun H1 _ Q q => ⟨x, .ty c, .type t, .type c, b, rfl, .ty c, ht H1, kit_ty hk, q H1 (Ex.refl H1)⟩
/-- _law_same(one, other) of two flat things -/
def spSame : Sp := fun vs H Q _ => ∃ x y, vs = [x, y] ∧ flat4 x = true ∧ flat4 y = true ∧ ∀ H', Evl.Ex H H' → Q (.bl (decide (x = y))) H'
theorem ne_bl {x y : V} (h : isBl x = true) (h2 : isBl y = false) : x ≠ y := fun e => by
  rw [e, h2] at h
  cases h
theorem scal_flat {x y : V} (hx : flat4 x = true) (hy : flat4 y = true) (h : (isBl x = true ∧ isBl y = true) ∨ (isIn x = true ∧ isIn y = true) ∨ (isSt x = true ∧ isSt y = true)) : scal x y = true := by
  cases x <;> cases y <;> first | rfl | (simp [isBl, isIn, isSt] at h) | cases hx | cases hy
theorem non_of {x : V} (h : flat4 x = true) (h1 : isBl x = false) (h2 : isIn x = false) (h3 : isSt x = false) : x = .non := by
  cases x with
  | non => rfl
  | bl b => cases h1
  | int i => cases h2
  | str z => cases h3
  | byt b => cases h
  | flt b => cases h
  | ref a => cases h
  | ty n => cases h
open Evl in
theorem ok__law_same (T : Txt P K mg) : FnOk P w K mg base CX0 1 T.f__law_same T.d__law_same ["_law_one", "_law_other"] spSame := by
  refine T.F__law_same.ok sc__law_same (fun vs H Q E h => ?_) (fun cdv A outer s H vs Q E hr h => ?_)
  · obtain ⟨x, y, rfl, _⟩ := h
    rfl
  · obtain ⟨x, y, rfl, hx, hy, q⟩ := h
    obtain ⟨tx, kx, bx, ix, sx, lx, ux⟩ := kit_flat (K := K) hx
    obtain ⟨ty, ky, by_, iy, sy, ly, uy⟩ := kit_flat (K := K) hy
    have vx : ∀ (σ : L2.St) (H : Hp), σ[0]? = some (some x) → Ev (tVar 0) σ H x := fun σ H e => ev_var e
    have vy : ∀ (σ : L2.St) (H : Hp), σ[1]? = some (some y) → Ev (tVar 1) σ H y := fun σ H e => ev_var e
    refine ⟨_, (pss_cons (ps_if (PW.pt (pw_or (pt_val (pe_callB call_isi (by rfl) T.n_isinstance (by decide +kernel) (pa_cons (pv 0) (pa_cons (pe_bltn (v := .ty "bool") (u := .type "bool") (by rfl) T.n_bool (by decide +kernel) rfl) pa_nil)))) (pw_or1 (pt_val (pe_callB call_isi (by rfl) T.n_isinstance (by decide +kernel) (pa_cons (pv 1) (pa_cons (pe_bltn (v := .ty "bool") (u := .type "bool") (by rfl) T.n_bool (by decide +kernel) rfl) pa_nil))))))) (pss_one (ps_ret (pe_and (pe_callB call_isi (by rfl) T.n_isinstance (by decide +kernel) (pa_cons (pv 0) (pa_cons (pe_bltn (v := .ty "bool") (u := .type "bool") (by rfl) T.n_bool (by decide +kernel) rfl) pa_nil))) (pe_and (pe_callB call_isi (by rfl) T.n_isinstance (by decide +kernel) (pa_cons (pv 1) (pa_cons (pe_bltn (v := .ty "bool") (u := .type "bool") (by rfl) T.n_bool (by decide +kernel) rfl) pa_nil))) (pe_one (pe_cmpR op_eq (pv 0) (pv 1) (nomark _))))))) pss_nil)
      (pss_cons (ps_if (PW.pt (pw_or (pt_val (pe_callB call_isi (by rfl) T.n_isinstance (by decide +kernel) (pa_cons (pv 0) (pa_cons (pe_bltn (v := .ty "int") (u := .type "int") (by rfl) T.n_int (by decide +kernel) rfl) pa_nil)))) (pw_or1 (pt_val (pe_callB call_isi (by rfl) T.n_isinstance (by decide +kernel) (pa_cons (pv 1) (pa_cons (pe_bltn (v := .ty "int") (u := .type "int") (by rfl) T.n_int (by decide +kernel) rfl) pa_nil))))))) (pss_one (ps_ret (pe_and (pe_callB call_isi (by rfl) T.n_isinstance (by decide +kernel) (pa_cons (pv 0) (pa_cons (pe_bltn (v := .ty "int") (u := .type "int") (by rfl) T.n_int (by decide +kernel) rfl) pa_nil))) (pe_and (pe_callB call_isi (by rfl) T.n_isinstance (by decide +kernel) (pa_cons (pv 1) (pa_cons (pe_bltn (v := .ty "int") (u := .type "int") (by rfl) T.n_int (by decide +kernel) rfl) pa_nil))) (pe_one (pe_cmpR op_eq (pv 0) (pv 1) (nomark _))))))) pss_nil)
      (pss_cons (ps_if (PW.pt (pw_or (pt_val (pe_callB call_isi (by rfl) T.n_isinstance (by decide +kernel) (pa_cons (pv 0) (pa_cons (pe_bltn (v := .ty "str") (u := .type "str") (by rfl) T.n_str (by decide +kernel) rfl) pa_nil)))) (pw_or1 (pt_val (pe_callB call_isi (by rfl) T.n_isinstance (by decide +kernel) (pa_cons (pv 1) (pa_cons (pe_bltn (v := .ty "str") (u := .type "str") (by rfl) T.n_str (by decide +kernel) rfl) pa_nil))))))) (pss_one (ps_ret (pe_and (pe_callB call_isi (by rfl) T.n_isinstance (by decide +kernel) (pa_cons (pv 0) (pa_cons (pe_bltn (v := .ty "str") (u := .type "str") (by rfl) T.n_str (by decide +kernel) rfl) pa_nil))) (pe_and (pe_callB call_isi (by rfl) T.n_isinstance (by decide +kernel) (pa_cons (pv 1) (pa_cons (pe_bltn (v := .ty "str") (u := .type "str") (by rfl) T.n_str (by decide +kernel) rfl) pa_nil))) (pe_one (pe_cmpR op_eq (pv 0) (pv 1) (nomark _))))))) pss_nil)
      (pss_cons (ps_set (i := 2) sc__law_same.nd rfl (.inl rfl) (pe_and (pe_callB call_isi (by rfl) T.n_isinstance (by decide +kernel) (pa_cons (pv 0) (pa_cons (pe_bltn (v := .ty "list") (u := .type "list") (by rfl) T.n_list (by decide +kernel) rfl) pa_nil))) (pe_one (pe_callB call_isi (by rfl) T.n_isinstance (by decide +kernel) (pa_cons (pv 1) (pa_cons (pe_bltn (v := .ty "list") (u := .type "list") (by rfl) T.n_list (by decide +kernel) rfl) pa_nil))))))
      (pss_cons (ps_if (PW.pt (pw_and (pt_not (pt_val (pv 2))) (pw_and1 (pt_not (PW.pt (pw_and (pt_val (pe_callB call_isi (by rfl) T.n_isinstance (by decide +kernel) (pa_cons (pv 0) (pa_cons (pe_bltn (v := .ty "tuple") (u := .type "tuple") (by rfl) T.n_tuple (by decide +kernel) rfl) pa_nil)))) (pw_and1 (pt_val (pe_callB call_isi (by rfl) T.n_isinstance (by decide +kernel) (pa_cons (pv 1) (pa_cons (pe_bltn (v := .ty "tuple") (u := .type "tuple") (by rfl) T.n_tuple (by decide +kernel) rfl) pa_nil))))))))))) (pss_one (ps_ret (pe_and (pe_cmpR op_isN (pv 0) pe_non (nomark _)) (pe_one (pe_cmpR op_isN (pv 1) pe_non (nomark _)))))) pss_nil)
      (pss_one ps_never)))))), ?_⟩
    have cmp : ∀ (σ : L2.St) (H1 : Hp), σ[0]? = some (some x) → σ[1]? = some (some y) → scal x y = true → Ev (tOp rEq (tVar 0) (tVar 1)) σ H1 (.bl (decide (x = y))) := fun σ H1 e0 e1 hs => ev_op (ev_var e0) (ev_var e1) (rv_eq hs)
    refine q_when (et_or (et_B (ev_isi (vx _ _ rfl) kx bx)) (fun _ => et_B (ev_isi (vy _ _ rfl) ky by_))) (fun hb H1 e1 => ?_) (fun hb H1 e1 => ?_)
    · refine s_ret (v := .bl (decide (x = y))) (ev_is (ev_andV (ev_isi (vx _ _ rfl) kx bx) (fun h1 => ev_andV (b := decide (x = y)) (ev_isi (vy _ _ rfl) ky by_) (fun h2 => cmp _ _ rfl rfl (scal_flat hx hy (.inl ⟨h1, h2⟩))))) ?_) (fun H2 e2 => q H2 (e1.trans e2))
      cases h1 : isBl x with
      | true =>
        cases h2 : isBl y with
        | true => rfl
        | false => rw [decide_eq_false (ne_bl h1 h2)]; rfl
      | false =>
        rw [h1] at hb
        have h2 : isBl y = true := hb
        rw [decide_eq_false (ne_bl h2 h1).symm]
        rfl
    · have nb : isBl x = false ∧ isBl y = false := by simpa using hb
      rw [nb.1] at ix
      rw [nb.2] at iy
      refine q_when (et_or (et_B (ev_isi (vx _ _ rfl) kx ix)) (fun _ => et_B (ev_isi (vy _ _ rfl) ky iy))) (fun hi H2 e2 => ?_) (fun hi H2 e2 => ?_)
      · refine s_ret (v := .bl (decide (x = y))) (ev_is (ev_andV (ev_isi (vx _ _ rfl) kx ix) (fun h1 => ev_andV (b := decide (x = y)) (ev_isi (vy _ _ rfl) ky iy) (fun h2 => cmp _ _ rfl rfl (scal_flat hx hy (.inr (.inl ⟨h1, h2⟩)))))) ?_) (fun H3 e3 => q H3 ((e1.trans e2).trans e3))
        cases x <;> cases y <;> simp_all [isIn, isBl]
      · have ni : isIn x = false ∧ isIn y = false := by simpa using hi
        refine q_when (et_or (et_B (ev_isi (vx _ _ rfl) kx sx)) (fun _ => et_B (ev_isi (vy _ _ rfl) ky sy))) (fun hs H3 e3 => ?_) (fun hs H3 e3 => ?_)
        · refine s_ret (v := .bl (decide (x = y))) (ev_is (ev_andV (ev_isi (vx _ _ rfl) kx sx) (fun h1 => ev_andV (b := decide (x = y)) (ev_isi (vy _ _ rfl) ky sy) (fun h2 => cmp _ _ rfl rfl (scal_flat hx hy (.inr (.inr ⟨h1, h2⟩)))))) ?_) (fun H4 e4 => q H4 (((e1.trans e2).trans e3).trans e4))
          cases x <;> cases y <;> simp_all [isSt, isBl]
        · have ns : isSt x = false ∧ isSt y = false := by simpa using hs
          have xn : x = .non := non_of hx nb.1 ni.1 ns.1
          have yn : y = .non := non_of hy nb.2 ni.2 ns.2
          refine q_asg (v := .bl false) (ev_is (ev_andV (b := false) (ev_isi (vx _ _ rfl) kx lx) (fun _ => ev_isi (vy _ _ rfl) ky ly)) rfl) (fun H4 e4 => ?_)
          refine q_when (b := true) (et_is (et_and (et_not (et_B (ev_var rfl))) (fun _ => et_not (et_and (b := false) (et_B (ev_isi (vx _ _ rfl) kx ux)) (fun _ => et_B (ev_isi (vy _ _ rfl) ky uy))))) rfl) (fun _ H5 e5 => ?_) (fun hf => by cases hf)
          refine s_ret (v := .bl true) (ev_is (ev_andV (a := true) (b := true) (ev_op (vx _ _ rfl) ev_c (fun H6 _ Q' q' => ⟨rfl, ?_⟩)) (fun _ => ev_op (vy _ _ rfl) ev_c (fun H6 _ Q' q' => ⟨rfl, ?_⟩))) rfl) (fun H6 e6 => ?_)
          · rw [xn]
            exact q' H6 (Ex.refl H6)
          · rw [yn]
            exact q' H6 (Ex.refl H6)
          · have z := q H6 (((((e1.trans e2).trans e3).trans e4).trans e5).trans e6)
            rw [xn, yn] at z
            exact z
open Evl in
theorem okH__law_same (T : Txt P K mg) : L2H.FnH P w K mg base CX0 1 T.f__law_same T.d__law_same ["_law_one", "_law_other"] spSame := by
  refine T.F__law_same.okH sc__law_same (fun vs H Q E h => ?_) (fun cdv A outer s H vs Q E p hot hr h => ?_)
  · obtain ⟨x, y, rfl, _⟩ := h
    rfl
  · obtain ⟨x, y, rfl, hx, hy, q⟩ := h
    obtain ⟨tx, kx, bx, ix, sx, lx, ux⟩ := kit_flat (K := K) hx
    obtain ⟨ty, ky, by_, iy, sy, ly, uy⟩ := kit_flat (K := K) hy
    have vx : ∀ (σ : L2.St) (H : Hp), σ[0]? = some (some x) → Ev (tVar 0) σ H x := fun σ H e => ev_var e
    have vy : ∀ (σ : L2.St) (H : Hp), σ[1]? = some (some y) → Ev (tVar 1) σ H y := fun σ H e => ev_var e
    refine ⟨_, (pss_cons (ps_if (PW.pt (pw_or (pt_val (pe_callB call_isi (by rfl) T.n_isinstance (by decide +kernel) (pa_cons (pv 0) (pa_cons (pe_bltn (v := .ty "bool") (u := .type "bool") (by rfl) T.n_bool (by decide +kernel) rfl) pa_nil)))) (pw_or1 (pt_val (pe_callB call_isi (by rfl) T.n_isinstance (by decide +kernel) (pa_cons (pv 1) (pa_cons (pe_bltn (v := .ty "bool") (u := .type "bool") (by rfl) T.n_bool (by decide +kernel) rfl) pa_nil))))))) (pss_one (ps_ret (pe_and (pe_callB call_isi (by rfl) T.n_isinstance (by decide +kernel) (pa_cons (pv 0) (pa_cons (pe_bltn (v := .ty "bool") (u := .type "bool") (by rfl) T.n_bool (by decide +kernel) rfl) pa_nil))) (pe_and (pe_callB call_isi (by rfl) T.n_isinstance (by decide +kernel) (pa_cons (pv 1) (pa_cons (pe_bltn (v := .ty "bool") (u := .type "bool") (by rfl) T.n_bool (by decide +kernel) rfl) pa_nil))) (pe_one (pe_cmpR op_eq (pv 0) (pv 1) (nomark _))))))) pss_nil)
      (pss_cons (ps_if (PW.pt (pw_or (pt_val (pe_callB call_isi (by rfl) T.n_isinstance (by decide +kernel) (pa_cons (pv 0) (pa_cons (pe_bltn (v := .ty "int") (u := .type "int") (by rfl) T.n_int (by decide +kernel) rfl) pa_nil)))) (pw_or1 (pt_val (pe_callB call_isi (by rfl) T.n_isinstance (by decide +kernel) (pa_cons (pv 1) (pa_cons (pe_bltn (v := .ty "int") (u := .type "int") (by rfl) T.n_int (by decide +kernel) rfl) pa_nil))))))) (pss_one (ps_ret (pe_and (pe_callB call_isi (by rfl) T.n_isinstance (by decide +kernel) (pa_cons (pv 0) (pa_cons (pe_bltn (v := .ty "int") (u := .type "int") (by rfl) T.n_int (by decide +kernel) rfl) pa_nil))) (pe_and (pe_callB call_isi (by rfl) T.n_isinstance (by decide +kernel) (pa_cons (pv 1) (pa_cons (pe_bltn (v := .ty "int") (u := .type "int") (by rfl) T.n_int (by decide +kernel) rfl) pa_nil))) (pe_one (pe_cmpR op_eq (pv 0) (pv 1) (nomark _))))))) pss_nil)
      (pss_cons (ps_if (PW.pt (pw_or (pt_val (pe_callB call_isi (by rfl) T.n_isinstance (by decide +kernel) (pa_cons (pv 0) (pa_cons (pe_bltn (v := .ty "str") (u := .type "str") (by rfl) T.n_str (by decide +kernel) rfl) pa_nil)))) (pw_or1 (pt_val (pe_callB call_isi (by rfl) T.n_isinstance (by decide +kernel) (pa_cons (pv 1) (pa_cons (pe_bltn (v := .ty "str") (u := .type "str") (by rfl) T.n_str (by decide +kernel) rfl) pa_nil))))))) (pss_one (ps_ret (pe_and (pe_callB call_isi (by rfl) T.n_isinstance (by decide +kernel) (pa_cons (pv 0) (pa_cons (pe_bltn (v := .ty "str") (u := .type "str") (by rfl) T.n_str (by decide +kernel) rfl) pa_nil))) (pe_and (pe_callB call_isi (by rfl) T.n_isinstance (by decide +kernel) (pa_cons (pv 1) (pa_cons (pe_bltn (v := .ty "str") (u := .type "str") (by rfl) T.n_str (by decide +kernel) rfl) pa_nil))) (pe_one (pe_cmpR op_eq (pv 0) (pv 1) (nomark _))))))) pss_nil)
      (pss_cons (ps_set (i := 2) sc__law_same.nd rfl (.inl rfl) (pe_and (pe_callB call_isi (by rfl) T.n_isinstance (by decide +kernel) (pa_cons (pv 0) (pa_cons (pe_bltn (v := .ty "list") (u := .type "list") (by rfl) T.n_list (by decide +kernel) rfl) pa_nil))) (pe_one (pe_callB call_isi (by rfl) T.n_isinstance (by decide +kernel) (pa_cons (pv 1) (pa_cons (pe_bltn (v := .ty "list") (u := .type "list") (by rfl) T.n_list (by decide +kernel) rfl) pa_nil))))))
      (pss_cons (ps_if (PW.pt (pw_and (pt_not (pt_val (pv 2))) (pw_and1 (pt_not (PW.pt (pw_and (pt_val (pe_callB call_isi (by rfl) T.n_isinstance (by decide +kernel) (pa_cons (pv 0) (pa_cons (pe_bltn (v := .ty "tuple") (u := .type "tuple") (by rfl) T.n_tuple (by decide +kernel) rfl) pa_nil)))) (pw_and1 (pt_val (pe_callB call_isi (by rfl) T.n_isinstance (by decide +kernel) (pa_cons (pv 1) (pa_cons (pe_bltn (v := .ty "tuple") (u := .type "tuple") (by rfl) T.n_tuple (by decide +kernel) rfl) pa_nil))))))))))) (pss_one (ps_ret (pe_and (pe_cmpR op_isN (pv 0) pe_non (nomark _)) (pe_one (pe_cmpR op_isN (pv 1) pe_non (nomark _)))))) pss_nil)
      (pss_one ps_never)))))), ?_⟩
    have cmp : ∀ (σ : L2.St) (H1 : Hp), σ[0]? = some (some x) → σ[1]? = some (some y) → scal x y = true → Ev (tOp rEq (tVar 0) (tVar 1)) σ H1 (.bl (decide (x = y))) := fun σ H1 e0 e1 hs => ev_op (ev_var e0) (ev_var e1) (rv_eq hs)
    refine q_when (et_or (et_B (ev_isi (vx _ _ rfl) kx bx)) (fun _ => et_B (ev_isi (vy _ _ rfl) ky by_))) (fun hb H1 e1 => ?_) (fun hb H1 e1 => ?_)
    · refine s_ret (v := .bl (decide (x = y))) (ev_is (ev_andV (ev_isi (vx _ _ rfl) kx bx) (fun h1 => ev_andV (b := decide (x = y)) (ev_isi (vy _ _ rfl) ky by_) (fun h2 => cmp _ _ rfl rfl (scal_flat hx hy (.inl ⟨h1, h2⟩))))) ?_) (fun H2 e2 => q H2 (e1.trans e2))
      cases h1 : isBl x with
      | true =>
        cases h2 : isBl y with
        | true => rfl
        | false => rw [decide_eq_false (ne_bl h1 h2)]; rfl
      | false =>
        rw [h1] at hb
        have h2 : isBl y = true := hb
        rw [decide_eq_false (ne_bl h2 h1).symm]
        rfl
    · have nb : isBl x = false ∧ isBl y = false := by simpa using hb
      rw [nb.1] at ix
      rw [nb.2] at iy
      refine q_when (et_or (et_B (ev_isi (vx _ _ rfl) kx ix)) (fun _ => et_B (ev_isi (vy _ _ rfl) ky iy))) (fun hi H2 e2 => ?_) (fun hi H2 e2 => ?_)
      · refine s_ret (v := .bl (decide (x = y))) (ev_is (ev_andV (ev_isi (vx _ _ rfl) kx ix) (fun h1 => ev_andV (b := decide (x = y)) (ev_isi (vy _ _ rfl) ky iy) (fun h2 => cmp _ _ rfl rfl (scal_flat hx hy (.inr (.inl ⟨h1, h2⟩)))))) ?_) (fun H3 e3 => q H3 ((e1.trans e2).trans e3))
        cases x <;> cases y <;> simp_all [isIn, isBl]
      · have ni : isIn x = false ∧ isIn y = false := by simpa using hi
        refine q_when (et_or (et_B (ev_isi (vx _ _ rfl) kx sx)) (fun _ => et_B (ev_isi (vy _ _ rfl) ky sy))) (fun hs H3 e3 => ?_) (fun hs H3 e3 => ?_)
        · refine s_ret (v := .bl (decide (x = y))) (ev_is (ev_andV (ev_isi (vx _ _ rfl) kx sx) (fun h1 => ev_andV (b := decide (x = y)) (ev_isi (vy _ _ rfl) ky sy) (fun h2 => cmp _ _ rfl rfl (scal_flat hx hy (.inr (.inr ⟨h1, h2⟩)))))) ?_) (fun H4 e4 => q H4 (((e1.trans e2).trans e3).trans e4))
          cases x <;> cases y <;> simp_all [isSt, isBl]
        · have ns : isSt x = false ∧ isSt y = false := by simpa using hs
          have xn : x = .non := non_of hx nb.1 ni.1 ns.1
          have yn : y = .non := non_of hy nb.2 ni.2 ns.2
          refine q_asg (v := .bl false) (ev_is (ev_andV (b := false) (ev_isi (vx _ _ rfl) kx lx) (fun _ => ev_isi (vy _ _ rfl) ky ly)) rfl) (fun H4 e4 => ?_)
          refine q_when (b := true) (et_is (et_and (et_not (et_B (ev_var rfl))) (fun _ => et_not (et_and (b := false) (et_B (ev_isi (vx _ _ rfl) kx ux)) (fun _ => et_B (ev_isi (vy _ _ rfl) ky uy))))) rfl) (fun _ H5 e5 => ?_) (fun hf => by cases hf)
          refine s_ret (v := .bl true) (ev_is (ev_andV (a := true) (b := true) (ev_op (vx _ _ rfl) ev_c (fun H6 _ Q' q' => ⟨rfl, ?_⟩)) (fun _ => ev_op (vy _ _ rfl) ev_c (fun H6 _ Q' q' => ⟨rfl, ?_⟩))) rfl) (fun H6 e6 => ?_)
          · rw [xn]
            exact q' H6 (Ex.refl H6)
          · rw [yn]
            exact q' H6 (Ex.refl H6)
          · have z := q H6 (((((e1.trans e2).trans e3).trans e4).trans e5).trans e6)
            rw [xn, yn] at z
            exact z
open Evl in
theorem ev_same {σ : L2.St} {H : Hp} {ta tb : TE} {x y : V} {E : XK} (ha : Ev ta σ H x) (hb : Ev tb σ H y) (hx : flat4 x = true) (hy : flat4 y = true) : Ev (tCall spSame [] E (tCons ta (tCons tb tNil))) σ H (.bl (decide (x = y))) :=
  ev_call (ea_cons ha (ea_cons hb ea_nil)) fun H1 _ Q q E => ⟨x, y, rfl, hx, hy, q⟩
open Evl in
theorem ev_sameT {σ : L2.St} {H : Hp} {ta tb : TE} {x y : V} {E : XK} (ha : Ev ta σ H x) (hb : Ev tb σ H y) (hx : flat4 x = true) (hy : flat4 y = true) (e : x = y) : Ev (tCall spSame [] E (tCons ta (tCons tb tNil))) σ H (.bl true) :=
  ev_is (ev_same ha hb hx hy) (by rw [decide_eq_true e])
/-- the heap behind a new object whose __init__ has stored to it alone -/
theorem mk_ex {H H' : Hp} {x dx : Addr} {o1 o2 : HO} (hx : H x = none) (hd : H dx = none) (k : ∀ c o, c ≠ x → (upd (upd H dx o1) x o2) c = some o → H' c = some o) : Evl.Ex H H' := fun c o hc => by
  have n1 := ne_of_none hc hx
  have n2 := ne_of_none hc hd
  refine k c o n1 ?_
  rw [upd_ne n1, upd_ne n2]
  exact hc
/-! ### shares as values -/
def S40 (i : Int) : Prop := i.natAbs ≤ 10 ^ 40
theorem S40.neg {i : Int} (h : S40 i) : S40 (-i) := by
  unfold S40
  rw [Int.natAbs_neg]
  exact h
theorem S40.le {i j : Int} (h : S40 j) (l : i.natAbs ≤ j.natAbs) : S40 i := Nat.le_trans l h
theorem S40.cm {i j : Int} (h : S40 i) (g : S40 j) : CMulW i j := wide_mul (a := 200) (b := 200) (Nat.lt_of_le_of_lt h (by decide +kernel)) (Nat.lt_of_le_of_lt g (by decide +kernel)) (by decide) (by decide) (by decide)
theorem S40.mul {i j : Int} (h : S40 i) (g : S40 j) : (i * j).natAbs ≤ 10 ^ 80 := by
  rw [Int.natAbs_mul]
  exact Nat.le_trans (Nat.mul_le_mul h g) (by decide +kernel)
theorem S40.sz {i : Int} (h : S40 i) : Sz i := sz_small (Nat.lt_of_le_of_lt h (by decide +kernel))
theorem sz80 {i : Int} (h : i.natAbs ≤ 10 ^ 80) : Sz i := sz_small (Nat.lt_of_le_of_lt h (by decide +kernel))
theorem sz80a {i j : Int} (h : i.natAbs ≤ 10 ^ 80) (g : j.natAbs ≤ 10 ^ 80) : Sz (i + j) := sz_small (by
  have z : (10 ^ 80 + 10 ^ 80 : Nat) < 10 ^ 100 := by decide +kernel
  omega)
theorem lowB_ne {p q : Int} (h : q ≠ 0) : lowB p q ≠ 0 := fun e => by
  obtain ⟨k, hk⟩ := com_dvdB p q
  have z : lowB p q = k := by
    unfold lowB
    conv => lhs; arg 1; rw [hk]
    exact Int.mul_fdiv_cancel_left _ (com_ne h)
  rw [z] at e
  rw [e, Int.mul_zero] at hk
  exact h hk
theorem low_eq {p q : Int} (h : q ≠ 0) : p = lowT p q * com p q ∧ q = lowB p q * com p q := by
  obtain ⟨j, hj⟩ := com_dvdT p q
  obtain ⟨k, hk⟩ := com_dvdB p q
  have z : lowB p q = k := by
    unfold lowB
    conv => lhs; arg 1; rw [hk]
    exact Int.mul_fdiv_cancel_left _ (com_ne h)
  have y : lowT p q = j := by
    unfold lowT
    conv => lhs; arg 1; rw [hj]
    exact Int.mul_fdiv_cancel_left _ (com_ne h)
  rw [z, y]
  exact ⟨by rw [Int.mul_comm]; exact hj, by rw [Int.mul_comm]; exact hk⟩
theorem int_low (n : Int) : lowT n 1 = n ∧ lowB n 1 = 1 := by
  have e : com n 1 = 1 := by
    unfold com
    rw [if_neg (by decide)]
    simp
  unfold lowT lowB
  rw [e]
  exact ⟨by simp, by simp⟩
theorem mul4 (a b c d : Int) : a * b * (c * d) = a * c * (b * d) := by
  rw [Int.mul_assoc, Int.mul_assoc, ← Int.mul_assoc b c d, Int.mul_comm b c, Int.mul_assoc c b d]
theorem low_sum {p q r s : Int} (hq : q ≠ 0) (hs : s ≠ 0) : lowT (lowT p q * lowB r s + lowT r s * lowB p q) (lowB p q * lowB r s) = lowT (p * s + r * q) (q * s) ∧ lowB (lowT p q * lowB r s + lowT r s * lowB p q) (lowB p q * lowB r s) = lowB (p * s + r * q) (q * s) := by
  obtain ⟨e1, e2⟩ := low_eq (p := p) hq
  obtain ⟨e3, e4⟩ := low_eq (p := r) hs
  have cn := Int.mul_ne_zero (com_ne (t := p) hq) (com_ne (t := r) hs)
  have bn := Int.mul_ne_zero (lowB_ne (p := p) hq) (lowB_ne (p := r) hs)
  have a1 : p * s + r * q = (lowT p q * lowB r s + lowT r s * lowB p q) * (com p q * com r s) := by
    rw [Int.add_mul, ← mul4 (lowT p q) (com p q) (lowB r s) (com r s), Int.mul_comm (com p q) (com r s), ← mul4 (lowT r s) (com r s) (lowB p q) (com p q), ← e1, ← e2, ← e3, ← e4]
  have a2 : q * s = (lowB p q * lowB r s) * (com p q * com r s) := by
    rw [← mul4 (lowB p q) (com p q) (lowB r s) (com r s), ← e2, ← e4]
  rw [a1, a2, lowT_mul _ _ cn bn, lowB_mul _ _ cn bn]
  exact ⟨rfl, rfl⟩
theorem low_prod {p q r s : Int} (hq : q ≠ 0) (hs : s ≠ 0) : lowT (lowT p q * lowT r s) (lowB p q * lowB r s) = lowT (p * r) (q * s) ∧ lowB (lowT p q * lowT r s) (lowB p q * lowB r s) = lowB (p * r) (q * s) := by
  obtain ⟨e1, e2⟩ := low_eq (p := p) hq
  obtain ⟨e3, e4⟩ := low_eq (p := r) hs
  have cn := Int.mul_ne_zero (com_ne (t := p) hq) (com_ne (t := r) hs)
  have bn := Int.mul_ne_zero (lowB_ne (p := p) hq) (lowB_ne (p := r) hs)
  have a1 : p * r = (lowT p q * lowT r s) * (com p q * com r s) := by
    rw [← mul4 (lowT p q) (com p q) (lowT r s) (com r s), ← e1, ← e3]
  have a2 : q * s = (lowB p q * lowB r s) * (com p q * com r s) := by
    rw [← mul4 (lowB p q) (com p q) (lowB r s) (com r s), ← e2, ← e4]
  rw [a1, a2, lowT_mul _ _ cn bn, lowB_mul _ _ cn bn]
  exact ⟨rfl, rfl⟩
theorem low_neg {p q : Int} (hq : q ≠ 0) : lowT (-(lowT p q)) (lowB p q) = lowT (-p) q ∧ lowB (-(lowT p q)) (lowB p q) = lowB (-p) q := by
  obtain ⟨e1, e2⟩ := low_eq (p := p) hq
  have cn := com_ne (t := p) hq
  have bn := lowB_ne (p := p) hq
  have a1 : -p = -(lowT p q) * com p q := by
    rw [Int.neg_mul, ← e1]
  constructor
  · rw [a1]
    conv => rhs; arg 2; rw [e2]
    rw [lowT_mul _ _ cn bn]
  · rw [a1]
    conv => rhs; arg 2; rw [e2]
    rw [lowB_mul _ _ cn bn]
/-- v is worth p / q: a share in lowest terms, or an int -/
def Rep (C : Addr) (H : Hp) (v : V) (p q : Int) : Prop := q ≠ 0 ∧ S40 p ∧ S40 q ∧ ((∃ x, v = .ref x ∧ ShrAt C H x (lowT p q) (lowB p q)) ∨ (v = .int p ∧ q = 1))
/-- a share that is worth p / q, of any size -/
def RepS (C : Addr) (H : Hp) (x : Addr) (p q : Int) : Prop := q ≠ 0 ∧ ShrAt C H x (lowT p q) (lowB p q)
theorem Rep.mono {C : Addr} {H H' : Hp} {v : V} {p q : Int} (R : Rep C H v p q) (e : Evl.Ex H H') : Rep C H' v p q := by
  obtain ⟨h1, h2, h3, h | h⟩ := R
  · obtain ⟨x, rfl, h⟩ := h
    exact ⟨h1, h2, h3, .inl ⟨x, rfl, h.mono e⟩⟩
  · exact ⟨h1, h2, h3, .inr h⟩
theorem RepS.mono {C : Addr} {H H' : Hp} {x : Addr} {p q : Int} (R : RepS C H x p q) (e : Evl.Ex H H') : RepS C H' x p q := ⟨R.1, R.2.mono e⟩
theorem RepS.rep {C : Addr} {H : Hp} {x : Addr} {p q : Int} (R : RepS C H x p q) (h2 : S40 p) (h3 : S40 q) : Rep C H (.ref x) p q := ⟨R.1, h2, h3, .inl ⟨x, rfl, R.2⟩⟩
theorem Rep.shr {C : Addr} {H : Hp} {a : Addr} {p q : Int} (R : Rep C H (.ref a) p q) : ShrAt C H a (lowT p q) (lowB p q) := by
  obtain ⟨h1, h2, h3, ⟨x, e, h⟩ | ⟨e, _⟩⟩ := R
  · cases e
    exact h
  · cases e
theorem Rep.bl {C : Addr} {H : Hp} {v : V} {p q : Int} (R : Rep C H v p q) {sp : Sp} {a dx : Addr} {fs : List (Str × V)} {Q : VK} {E : XK} (hA : H a = some (.ins C dx fs)) (h : sp [.ref a, v] H Q E) : rBinL C sp E (.ref a) v H Q := by
  obtain ⟨h1, h2, h3, ⟨x, rfl, ⟨dy, hx⟩⟩ | ⟨rfl, _⟩⟩ := R
  · exact .inl ⟨a, dx, fs, x, dy, _, rfl, rfl, hA, hx, h⟩
  · exact .inr ⟨a, dx, fs, p, rfl, rfl, hA, h⟩
/-! ### the helpers and the operators of a share -/
section
open Evl
theorem ty_share (T : Txt P K mg) {H : Hp} {x dx : Addr} {fs : List (Str × V)} (h : H x = some (.ins T.C_Share dx fs)) : TyX K H (.ref x) (.ref T.C_Share) := .base (.ins h T.cl_Share T.ins_Share.ha T.ins_Share.hn T.ins_Share.htk T.ins_Share.hm)
theorem ev_isS (T : Txt P K mg) {σ : L2.St} {H : Hp} {te : TE} {v : V} {p q : Int} (R : Rep T.C_Share H v p q) (h : Ev te σ H v) : ∃ b, Ev (tCB (rIsi K) (tCons te (tCons (tC (.ref T.C_Share)) tNil))) σ H (.bl b) ∧ (b = true → ∃ x, v = .ref x) ∧ (b = false → v = .int p ∧ q = 1) := by
  obtain ⟨h1, h2, h3, ⟨x, rfl, ⟨dx, hx⟩⟩ | ⟨rfl, rfl⟩⟩ := R
  · exact ⟨true, ev_cb (ea_cons h (ea_cons ev_c ea_nil)) fun H1 e Q q => ⟨.ref x, .ref T.C_Share, .ref T.C_Share, .ref T.C_Share, true, rfl, .own _, ty_share T (e _ _ hx), T.ins_Share.me, q H1 (Ex.refl H1)⟩, fun _ => ⟨x, rfl⟩, fun z => by cases z⟩
  · exact ⟨false, ev_cb (ea_cons h (ea_cons ev_c ea_nil)) fun H1 e Q q => ⟨.int p, .ref T.C_Share, .type "int", .ref T.C_Share, false, rfl, .own _, .base (.int p), T.kt_int_Share, q H1 (Ex.refl H1)⟩, fun z => (by cases z), fun _ => ⟨rfl, rfl⟩⟩
/-- _is_exact(value) -/
def spExact (C : Addr) : Sp := fun vs H Q _ => ∃ (v : V) (p q : Int), vs = [v] ∧ Rep C H v p q ∧ ∀ H', Ex H H' → Q (.bl true) H'
theorem ok__is_exact (T : Txt P K mg) : FnOk P w K mg base CX0 1 T.f__is_exact T.d__is_exact ["value"] (spExact T.C_Share) := by
  refine T.F__is_exact.ok sc__is_exact (fun vs H Q E h => ?_) (fun cdv A outer s H vs Q E hr h => ?_)
  · obtain ⟨v, p, q, rfl, _⟩ := h
    rfl
  · obtain ⟨v, p, q, rfl, R, k⟩ := h
    refine ⟨_, (pss_cons (ps_if (pt_val (pe_callB call_isi (by rfl) T.n_isinstance (by decide +kernel) (pa_cons (pv 0) (pa_cons (pe_glob (v := .ref T.C_Share) rfl T.g_Share rfl) pa_nil)))) (pss_one (ps_ret pe_bl)) pss_nil)
      (pss_one (ps_ret (pe_and (pe_callB call_isi (by rfl) T.n_isinstance (by decide +kernel) (pa_cons (pv 0) (pa_cons (pe_bltn (v := .ty "int") (u := .type "int") (by rfl) T.n_int (by decide +kernel) rfl) pa_nil))) (pe_one (pe_not (pe_callB call_isi (by rfl) T.n_isinstance (by decide +kernel) (pa_cons (pv 0) (pa_cons (pe_bltn (v := .ty "bool") (u := .type "bool") (by rfl) T.n_bool (by decide +kernel) rfl) pa_nil))))))))), ?_⟩
    obtain ⟨b, hb, b1, b2⟩ := ev_isS T R (te := tVar 0) (σ := [some v]) (ev_var rfl)
    refine q_when (et_B hb) (fun z H1 e1 => s_ret ev_c fun H2 e2 => k H2 (e1.trans e2)) (fun z H1 e1 => ?_)
    obtain ⟨rfl, rfl⟩ := b2 z
    refine s_ret (v := .bl true) (ev_is (ev_andV (a := true) (b := true) (ev_isi (ev_var rfl) (fun _ => .base (.int p)) (show kitB "int" "int" = some true by decide +kernel)) (fun _ => ev_is (ev_notV (ev_isi (ev_var rfl) (fun _ => .base (.int p)) (show kitB "int" "bool" = some false by decide +kernel))) rfl)) rfl) (fun H2 e2 => k H2 (e1.trans e2))
/-- _parts(value) -/
def spParts (C : Addr) : Sp := fun vs H Q _ => ∃ (v : V) (p q : Int), vs = [v] ∧ Rep C H v p q ∧ ∀ H' t, Ex H H' → H' t = some (.tup [.int (lowT p q), .int (lowB p q)]) → Q (.ref t) H'
theorem ok__parts (T : Txt P K mg) : FnOk P w K mg base CX0 1 T.f__parts T.d__parts ["value"] (spParts T.C_Share) := by
  refine T.F__parts.ok sc__parts (fun vs H Q E h => ?_) (fun cdv A outer s H vs Q E hr h => ?_)
  · obtain ⟨v, p, q, rfl, _⟩ := h
    rfl
  · obtain ⟨v, p, q, rfl, R, k⟩ := h
    refine ⟨_, (pss_cons (ps_if (pt_val (pe_callB call_isi (by rfl) T.n_isinstance (by decide +kernel) (pa_cons (pv 0) (pa_cons (pe_glob (v := .ref T.C_Share) rfl T.g_Share rfl) pa_nil)))) (pss_one (ps_ret (pe_tup (pa_cons (pe_fld (pv 0) rfl) (pa_cons (pe_fld (pv 0) rfl) pa_nil))))) pss_nil)
      (pss_one (ps_ret (pe_tup (pa_cons (pv 0) (pa_cons pe_int pa_nil)))))), ?_⟩
    obtain ⟨b, hb, b1, b2⟩ := ev_isS T R (te := tVar 0) (σ := [some v]) (ev_var rfl)
    refine q_when (et_B hb) (fun z H1 e1 => ?_) (fun z H1 e1 => ?_)
    · obtain ⟨x, rfl⟩ := b1 z
      obtain ⟨dx, hx⟩ := (R.mono e1).shr
      exact ⟨_, rfl, x, _, dx, _, _, rfl, hx, T.cl_Share, T.na_Share_top, rfl, _, rfl, x, _, dx, _, _, rfl, hx, T.cl_Share, T.na_Share_bottom, rfl, (by show 2 ≤ sizeLine; decide), fun t ht => k _ t (e1.trans (Ex.new ht)) upd_same⟩
    · obtain ⟨rfl, rfl⟩ := b2 z
      refine ⟨_, rfl, (by show 2 ≤ sizeLine; decide), fun t ht => k _ t (e1.trans (Ex.new ht)) ?_⟩
      rw [(int_low p).1, (int_low p).2]
      exact upd_same
theorem mkS (T : Txt P K mg) : Mk K T.C_Share T.f_Share_init := ⟨T.mi_Share, T.m_Share_init, T.i_Share_init, T.kc_Share⟩
/-- what a new share asks -/
theorem made (T : Txt P K mg) {H : Hp} {Q : VK} {t b : Int} (st : Sz t) (sb : Sz b) (hb : b ≠ 0) (q : ∀ H' z, Ex H H' → ShrAt T.C_Share H' z (lowT t b) (lowB t b) → Q (.ref z) H') :
    ∀ x dx, H x = none → H dx = none → dx ≠ x → spInit T.C_Share T.C_ZeroBelow [.ref x, .int t, .int b] (upd (upd H dx (.own x)) x (.ins T.C_Share dx [])) (fun v H2 => v = .non ∧ Q (.ref x) H2) E0 :=
  fun x dx hx hdx ne => ⟨x, dx, t, b, rfl, upd_same, st, sb, fun _ H1 k1 h1 => ⟨rfl, q H1 x (mk_ex hx hdx k1) ⟨dx, h1⟩⟩, fun e => absurd e hb⟩
theorem ev_exact (T : Txt P K mg) {σ : L2.St} {H : Hp} {te : TE} {v : V} {p q : Int} {E : XK} (R : Rep T.C_Share H v p q) (h : Ev te σ H v) : EvT (tNot (tB (tCall (spExact T.C_Share) [] E (tCons te tNil)))) σ H false :=
  et_is (et_not (et_B (ev_call (z := .bl true) (ea_cons h ea_nil) fun H1 e Q k E => ⟨v, p, q, rfl, R.mono e, k⟩))) rfl
end
/-! ### quotients of shares -/
section
open Evl
theorem fdiv_mul (a b : Int) {c : Int} (hc : c ≠ 0) : (a * c).fdiv (b * c) = a.fdiv b := by
  rcases Int.lt_or_gt_of_ne hc with h | h
  · have e : ∀ x : Int, x * c = -(x * -c) := fun x => by rw [Int.mul_neg, Int.neg_neg]
    rw [e a, e b, Int.neg_fdiv_neg]
    exact Int.mul_fdiv_mul_of_pos_left _ _ (by omega)
  · exact Int.mul_fdiv_mul_of_pos_left _ _ h
theorem low_fdiv {p q : Int} (h : q ≠ 0) : (lowT p q).fdiv (lowB p q) = p.fdiv q := by
  obtain ⟨e1, e2⟩ := low_eq (p := p) h
  conv => rhs; rw [e1]; arg 2; rw [e2]
  exact (fdiv_mul _ _ (com_ne h)).symm
theorem lowT_ne {p q : Int} (h : q ≠ 0) (hp : p ≠ 0) : lowT p q ≠ 0 := fun e => by
  obtain ⟨e1, e2⟩ := low_eq (p := p) h
  rw [e, Int.zero_mul] at e1
  exact hp e1
theorem lowT_zero {p q : Int} (h : q ≠ 0) (hp : p = 0) : lowT p q = 0 := by
  subst hp
  have z := lowT_le (t := 0) h
  omega
theorem low_quot {p q r s : Int} (hq : q ≠ 0) (hs : s ≠ 0) (hr : r ≠ 0) : lowT (lowT p q * lowB r s) (lowB p q * lowT r s) = lowT (p * s) (q * r) ∧ lowB (lowT p q * lowB r s) (lowB p q * lowT r s) = lowB (p * s) (q * r) := by
  obtain ⟨e1, e2⟩ := low_eq (p := p) hq
  obtain ⟨e3, e4⟩ := low_eq (p := r) hs
  have cn := Int.mul_ne_zero (com_ne (t := p) hq) (com_ne (t := r) hs)
  have bn := Int.mul_ne_zero (lowB_ne (p := p) hq) (lowT_ne hs hr)
  have a1 : p * s = (lowT p q * lowB r s) * (com p q * com r s) := by
    rw [← mul4 (lowT p q) (com p q) (lowB r s) (com r s), ← e1, ← e4]
  have a2 : q * r = (lowB p q * lowT r s) * (com p q * com r s) := by
    rw [← mul4 (lowB p q) (com p q) (lowT r s) (com r s), ← e2, ← e3]
  rw [a1, a2, lowT_mul _ _ cn bn, lowB_mul _ _ cn bn]
  exact ⟨rfl, rfl⟩
/-- _quotient(one, other) -/
def spQuot (C CZ : Addr) : Sp := fun vs H Q E => ∃ (x y : V) (p q r s : Int), vs = [x, y] ∧ Rep C H x p q ∧ Rep C H y r s ∧ (r ≠ 0 → ∀ H' z, Ex H H' → RepS C H' z (p * s) (q * r) → Q (.ref z) H') ∧ (r = 0 → ∀ H', Ex H H' → E (.ref CZ) none H')
theorem ok__quotient (T : Txt P K mg) : FnOk P w K mg base (L2N.CX P w) 4 T.f__quotient T.d__quotient ["one", "other"] (spQuot T.C_Share T.C_ZeroBelow) := by
  refine T.F__quotient.okN sc__quotient (fun vs H Q E h => ?_) (fun cdv A outer s H vs Q E hr h => ?_)
  · obtain ⟨x, y, p, q, r, s, rfl, _⟩ := h
    rfl
  · obtain ⟨x, y, p, q, r, s, rfl, R1, R2, k, ke⟩ := h
    refine ⟨_, (pss_cons (ps_asg (pe_call (ok__parts T) (hr.mono (by decide)) rfl T.g__parts T.F__parts.kp T.b__parts .nil pass0 (pa_cons (pv 0) pa_nil)) (pg_tup rfl (pgs_cons (pg_name (i := 2) sc__quotient.nd rfl (.inl rfl)) (pgs_cons (pg_name (i := 3) sc__quotient.nd rfl (.inl rfl)) pgs_nil))))
      (pss_cons (ps_asg (pe_call (ok__parts T) (hr.mono (by decide)) rfl T.g__parts T.F__parts.kp T.b__parts .nil pass0 (pa_cons (pv 1) pa_nil)) (pg_tup rfl (pgs_cons (pg_name (i := 4) sc__quotient.nd rfl (.inl rfl)) (pgs_cons (pg_name (i := 5) sc__quotient.nd rfl (.inl rfl)) pgs_nil))))
      (pss_one (ps_ret (pe_make (mkS T) (ok_Share_init T) (hr.mono (by decide)) rfl T.g_Share T.b_Share_init .nil (L2N.passes_call (L2N.takes_of rfl rfl rfl rfl) (fun _ _ _ _ h => h)) (pa_cons (pe_op op_mulW (pv 2) (pv 5)) (pa_cons (pe_op op_mulW (pv 3) (pv 4)) pa_nil))))))), ?_⟩
    refine ⟨x, rfl, x, p, q, rfl, R1, fun H1 t1 e1 h1 => ⟨t1, _, rfl, SqT.of h1, rfl, _, _, rfl, _, _, rfl, rfl, ?_⟩⟩
    refine ⟨y, rfl, y, r, s, rfl, R2.mono e1, fun H2 t2 e2 h2 => ⟨t2, _, rfl, SqT.of h2, rfl, _, _, rfl, _, _, rfl, rfl, ?_⟩⟩
    obtain ⟨q0, sp, sq, _⟩ := R1
    obtain ⟨s0, sr, ss, _⟩ := R2
    have tp : S40 (lowT p q) := sp.le (lowT_le q0)
    have bq : S40 (lowB p q) := sq.le (lowB_le q0)
    have tr : S40 (lowT r s) := sr.le (lowT_le s0)
    have bs : S40 (lowB r s) := ss.le (lowB_le s0)
    refine ⟨_, rfl, _, rfl, _, _, rfl, rfl, tp.cm bs, _, rfl, _, rfl, _, _, rfl, rfl, bq.cm tr, fun u du hu hdu neu => ⟨u, du, _, _, rfl, upd_same, sz80 (tp.mul bs), sz80 (bq.mul tr), fun nz H3 k3 h3 => ⟨rfl, ?_⟩, fun z => ?_⟩⟩
    · have r0 : r ≠ 0 := fun e => nz (by rw [lowT_zero s0 e, Int.mul_zero])
      rw [(low_quot q0 s0 r0).1, (low_quot q0 s0 r0).2] at h3
      exact k r0 H3 u ((e1.trans e2).trans (mk_ex hu hdu k3)) ⟨Int.mul_ne_zero q0 r0, du, h3⟩
    · have r0 : r = 0 := Classical.byContradiction fun r0 => Int.mul_ne_zero (lowB_ne q0) (lowT_ne s0 r0) z
      exact ke r0 _ ((e1.trans e2).trans (mk_ex hu hdu fun _ _ _ h => h))
/-- _floor(share) -/
def spFloor (C : Addr) : Sp := fun vs H Q _ => ∃ (x : Addr) (p q : Int), vs = [.ref x] ∧ RepS C H x p q ∧ p.natAbs ≤ 10 ^ 80 ∧ q.natAbs ≤ 10 ^ 80 ∧ ∀ H', Ex H H' → Q (.int (p.fdiv q)) H'
theorem ok__floor (T : Txt P K mg) : FnOk P w K mg base CX0 1 T.f__floor T.d__floor ["share"] (spFloor T.C_Share) := by
  refine T.F__floor.ok sc__floor (fun vs H Q E h => ?_) (fun cdv A outer s H vs Q E hr h => ?_)
  · obtain ⟨x, p, q, rfl, _⟩ := h
    rfl
  · obtain ⟨x, p, q, rfl, ⟨q0, dx, hx⟩, sp, sq, k⟩ := h
    refine ⟨_, (pss_one (ps_ret (pe_op op_fdivX (pe_fld (pv 0) rfl) (pe_fld (pv 0) rfl)))), ?_⟩
    have sb : Sz (lowB p q) := sz80 (Nat.le_trans (lowB_le q0) sq)
    refine ⟨_, rfl, x, _, dx, _, _, rfl, hx, T.cl_Share, T.na_Share_top, rfl, _, rfl, x, _, dx, _, _, rfl, hx, T.cl_Share, T.na_Share_bottom, rfl, _, _, rfl, rfl, sb.div (lowB_ne q0), ?_⟩
    show Q (.int ((lowT p q).fdiv (lowB p q))) H
    rw [low_fdiv q0]
    exact k H (Ex.refl H)
theorem s40_80 {i j : Int} (h : S40 i) (g : S40 j) : (i * j).natAbs ≤ 10 ^ 80 := h.mul g
/-- self // other -/
def spDiv (C CZ : Addr) : Sp := fun vs H Q E => ∃ (x : Addr) (y : V) (p q r s : Int), vs = [.ref x, y] ∧ Rep C H (.ref x) p q ∧ Rep C H y r s ∧ (r ≠ 0 → ∀ H', Ex H H' → Q (.int ((p * s).fdiv (q * r))) H') ∧ (r = 0 → ∀ H', Ex H H' → E (.ref CZ) none H')
/-- other // self, by the reflected method of self -/
def spRdiv (C CZ : Addr) : Sp := fun vs H Q E => ∃ (x : Addr) (y : V) (p q r s : Int), vs = [.ref x, y] ∧ Rep C H (.ref x) p q ∧ Rep C H y r s ∧ (p ≠ 0 → ∀ H', Ex H H' → Q (.int ((r * q).fdiv (s * p))) H') ∧ (p = 0 → ∀ H', Ex H H' → E (.ref CZ) none H')
theorem ev_exactN (T : Txt P K mg) {σ : L2.St} {H : Hp} {te : TE} {v : V} {p q : Int} {E : XK} (R : Rep T.C_Share H v p q) (h : Ev te σ H v) : EvT (tNot (tB (tCall (spExact T.C_Share) [] E (tCons te tNil)))) σ H false := ev_exact T R h
theorem ok_Share_floordiv (T : Txt P K mg) : FnOk P w K mg base (L2N.CX P w) 5 T.f_Share_floordiv T.d_Share_floordiv ["self", "other"] (spDiv T.C_Share T.C_ZeroBelow) := by
  refine T.F_Share_floordiv.okN sc_Share_floordiv (fun vs H Q E h => ?_) (fun cdv A outer s H vs Q E hr h => ?_)
  · obtain ⟨x, y, p, q, r, s, rfl, _⟩ := h
    rfl
  · obtain ⟨x, y, p, q, r, s, rfl, R1, R2, k, ke⟩ := h
    refine ⟨_, (pss_cons (ps_if (pt_not (pt_val (pe_call (ok__is_exact T) (hr.mono (by decide)) rfl T.g__is_exact T.F__is_exact.kp T.b__is_exact .nil pass0 (pa_cons (pv 1) pa_nil)))) (pss_one ps_never) pss_nil)
      (pss_one (ps_ret (pe_call (ok__floor T) (hr.mono (by decide)) rfl T.g__floor T.F__floor.kp T.b__floor .nil pass0 (pa_cons (pe_call (ok__quotient T) (hr.mono (by decide)) rfl T.g__quotient T.F__quotient.kp T.b__quotient .nil (L2N.passes_call (L2N.takes_of rfl rfl rfl rfl) (fun _ _ _ _ h => h)) (pa_cons (pv 0) (pa_cons (pv 1) pa_nil))) pa_nil))))), ?_⟩
    refine q_when (b := false) (ev_exact T R2 (ev_var rfl)) (fun z => by cases z) (fun _ H1 e1 => ?_)
    refine ⟨_, rfl, _, rfl, .ref x, y, p, q, r, s, rfl, R1.mono e1, R2.mono e1, fun r0 H2 z e2 hz => ?_, fun r0 H2 e2 => ke r0 H2 (e1.trans e2)⟩
    exact ⟨z, _, _, rfl, hz, s40_80 R1.2.1 R2.2.2.1, s40_80 R1.2.2.1 R2.2.1, fun H3 e3 => k r0 H3 ((e1.trans e2).trans e3)⟩
theorem ok_Share_rfloordiv (T : Txt P K mg) : FnOk P w K mg base (L2N.CX P w) 5 T.f_Share_rfloordiv T.d_Share_rfloordiv ["self", "other"] (spRdiv T.C_Share T.C_ZeroBelow) := by
  refine T.F_Share_rfloordiv.okN sc_Share_rfloordiv (fun vs H Q E h => ?_) (fun cdv A outer s H vs Q E hr h => ?_)
  · obtain ⟨x, y, p, q, r, s, rfl, _⟩ := h
    rfl
  · obtain ⟨x, y, p, q, r, s, rfl, R1, R2, k, ke⟩ := h
    refine ⟨_, (pss_cons (ps_if (pt_not (pt_val (pe_call (ok__is_exact T) (hr.mono (by decide)) rfl T.g__is_exact T.F__is_exact.kp T.b__is_exact .nil pass0 (pa_cons (pv 1) pa_nil)))) (pss_one ps_never) pss_nil)
      (pss_one (ps_ret (pe_call (ok__floor T) (hr.mono (by decide)) rfl T.g__floor T.F__floor.kp T.b__floor .nil pass0 (pa_cons (pe_call (ok__quotient T) (hr.mono (by decide)) rfl T.g__quotient T.F__quotient.kp T.b__quotient .nil (L2N.passes_call (L2N.takes_of rfl rfl rfl rfl) (fun _ _ _ _ h => h)) (pa_cons (pv 1) (pa_cons (pv 0) pa_nil))) pa_nil))))), ?_⟩
    refine q_when (b := false) (ev_exact T R2 (ev_var rfl)) (fun z => by cases z) (fun _ H1 e1 => ?_)
    refine ⟨_, rfl, _, rfl, y, .ref x, r, s, p, q, rfl, R2.mono e1, R1.mono e1, fun r0 H2 z e2 hz => ?_, fun r0 H2 e2 => ke r0 H2 (e1.trans e2)⟩
    exact ⟨z, _, _, rfl, hz, s40_80 R2.2.1 R1.2.2.1, s40_80 R2.2.2.1 R1.2.1, fun H3 e3 => k r0 H3 ((e1.trans e2).trans e3)⟩
/-- self.over(other) -/
def spOver (C CZ : Addr) : Sp := fun vs H Q E => ∃ (x : Addr) (y : V) (p q r s : Int), vs = [.ref x, y] ∧ Rep C H (.ref x) p q ∧ Rep C H y r s ∧ (r ≠ 0 → ∀ H' z, Ex H H' → RepS C H' z (p * s) (q * r) → Q (.ref z) H') ∧ (r = 0 → ∀ H', Ex H H' → E (.ref CZ) none H')
theorem ok_Share_over (T : Txt P K mg) : FnOk P w K mg base (L2N.CX P w) 5 T.f_Share_over T.d_Share_over ["self", "other"] (spOver T.C_Share T.C_ZeroBelow) := by
  refine T.F_Share_over.okN sc_Share_over (fun vs H Q E h => ?_) (fun cdv A outer s H vs Q E hr h => ?_)
  · obtain ⟨x, y, p, q, r, s, rfl, _⟩ := h
    rfl
  · obtain ⟨x, y, p, q, r, s, rfl, R1, R2, k, ke⟩ := h
    refine ⟨_, (pss_one (ps_ret (pe_call (ok__quotient T) (hr.mono (by decide)) rfl T.g__quotient T.F__quotient.kp T.b__quotient .nil (L2N.passes_call (L2N.takes_of rfl rfl rfl rfl) (fun _ _ _ _ h => h)) (pa_cons (pv 0) (pa_cons (pv 1) pa_nil))))), ?_⟩
    exact ⟨_, rfl, _, rfl, .ref x, y, p, q, r, s, rfl, R1, R2, k, ke⟩
end
/-! ### the law -/
section
variable {X : Cx}
open Evl in
theorem ev_fld {C a dx : Addr} {f : Str} {fs : List (Str × V)} {v : V} {σ : L2.St} {H : Hp} {ta : TE} (h : Ev ta σ H (.ref a)) (hx : H a = some (.ins C dx fs)) (cl : Cls K C) (na : NoAttr K C f) (hl : List.lookup f fs = some v) : Ev (tFld K ta f) σ H v :=
  fun H1 e Q q => h H1 e _ fun H2 e2 => ⟨a, C, dx, fs, v, rfl, e2 _ _ (e _ _ hx), cl, na, hl, q H2 e2⟩
open Evl in
theorem ev_lt {σ : L2.St} {H : Hp} {ta tb : TE} {i j : Int} {r : R2} (ha : Ev ta σ H (.int i)) (hb : Ev tb σ H (.int j)) (hr : RV r (.int i) (.int j) H (.bl (decide (i < j)))) : EvT (tTest (tOp r ta tb)) σ H (decide (i < j)) := et_test (ev_op ha hb hr)
end
/-- _law_gcd(one, other) -/
def spGcd : Sp := fun vs H Q _ => ∃ t b : Int, vs = [.int t, .int b] ∧ Sz b ∧ ∀ H', Evl.Ex H H' → Q (.int ((Nat.gcd t.natAbs b.natAbs : Nat) : Int)) H'
theorem ok__law_gcd (T : Txt P K mg) : FnOk P w K mg base CX0 1 T.f__law_gcd T.d__law_gcd ["_law_one", "_law_other"] spGcd := by
  refine T.F__law_gcd.ok sc__law_gcd (fun vs H Q E h => ?_) (fun cdv A outer s H vs Q E hr h => ?_)
  · obtain ⟨t, b, rfl, _⟩ := h
    rfl
  · obtain ⟨t, b, rfl, sb, q⟩ := h
    refine ⟨_, (pss_cons (ps_for PassesOwn.never rfl (pi_range1 rfl T.n_range (pa_cons pe_int pa_nil)) (pg_name (i := 2) sc__law_gcd.nd rfl (.inl rfl)) (pss_cons (ps_if (pt_cmpR op_eq (pv 1) pe_int (nomark _)) (pss_one (ps_ret (pe_callB call_abs (by rfl) T.n_abs (by decide +kernel) (pa_cons (pv 0) pa_nil)))) pss_nil)
      (pss_cons (ps_set (i := 3) sc__law_gcd.nd rfl (.inl rfl) (pe_op op_modN (pe_callTy call_int1 (by rfl) T.n_int (by decide +kernel) (pa_cons (pv 0) pa_nil)) (pv 1)))
      (pss_cons (ps_set (i := 0) sc__law_gcd.nd rfl (.inl rfl) (pv 1))
      (pss_one (ps_set (i := 1) sc__law_gcd.nd rfl (.inl rfl) (pv 3)))))))
      (pss_one (ps_ret pe_int))), ?_⟩
    have g0 : gcdF 1500 t b = ((Nat.gcd t.natAbs b.natAbs : Nat) : Int) := gcdF_eq 420 1500 t b sb (by decide)
    refine ⟨1500, rfl, by decide, by decide, for_range (lo := 0) (n := 1500) (fun i σ H' => ∃ (x y : Int) (u v : Option V), σ = [some (.int x), some (.int y), u, v] ∧ gcdF (1500 - i) x y = gcdF 1500 t b ∧ H' = H) ⟨t, b, _, _, rfl, rfl, rfl⟩ ?_ ?_⟩
    · rintro i σ H' hi ⟨x, y, u, v, rfl, hg, rfl⟩
      obtain ⟨n, hn⟩ : ∃ n, 1500 - i = n + 1 := ⟨1500 - i - 1, by omega⟩
      rw [hn] at hg
      refine ⟨_, rfl, rfl, _, rfl, ite2 (fun z => ?_) (fun z => ?_)⟩
      · have y0 : y = 0 := by simpa using z
        refine ⟨_, rfl, x, rfl, ?_⟩
        have e : (if x < 0 then -x else x) = ((Nat.gcd t.natAbs b.natAbs : Nat) : Int) := by
          rw [← g0, ← hg]
          unfold gcdF
          rw [if_pos y0]
        rw [e]
        exact q _ (Evl.Ex.refl _)
      · have y0 : ¬ y = 0 := by simpa using z
        refine ⟨_, rfl, .inl ⟨_, rfl, _, rfl, _, _, rfl, rfl, y0, _, rfl, _, rfl, ?_⟩⟩
        refine ⟨y, x.fmod y, _, _, rfl, ?_, rfl⟩
        rw [← hg, show 1500 - (i + 1) = n from by omega]
        conv => rhs; unfold gcdF
        rw [if_neg y0]
    · rintro σ H' ⟨x, y, u, v, rfl, hg, rfl⟩
      have e : (1 : Int) = ((Nat.gcd t.natAbs b.natAbs : Nat) : Int) := by
        rw [← g0, ← hg]
        rfl
      show Q (.int 1) H'
      rw [e]
      exact q _ (Evl.Ex.refl _)
/-- _law_is_share(share, top, bottom), the share in the lowest terms of these -/
def spIsShare (C : Addr) : Sp := fun vs H Q _ => ∃ (x : Addr) (t b : Int), vs = [.ref x, .int t, .int b] ∧ ShrAt C H x (lowT t b) (lowB t b) ∧ b ≠ 0 ∧ Sz t ∧ Sz b ∧ ∀ H', Evl.Ex H H' → Q (.bl true) H'
open Evl in
theorem ev_com {σ : L2.St} {H : Hp} {D : Ends} {tz : TS} {t b : Int} {tb : TE} {i : Nat} (hb : b ≠ 0)
    (hc : σ[i]? = some (some (.int ((Nat.gcd t.natAbs b.natAbs : Nat) : Int)))) (hlt : Ev tb σ H (.bl (decide (b < 0))))
    (q : ∀ H1, Ex H H1 → tz D (List.set σ i (some (.int (com t b)))) H1) : tSeq (tIfS (tTest tb) (tAsg (tUn (rU fun i => .int (-i)) (tVar i)) (gName i)) tNext) tz D σ H := by
  refine q_ifAsg (v := .int (com t b)) (et_test hlt) (fun z => ?_) (fun z => ?_) q
  · have z1 : b < 0 := by simpa using z
    refine ev_is (ev_un (ev_var hc) ru_neg) ?_
    unfold com
    rw [if_pos z1]
  · have z1 : ¬ b < 0 := by simpa using z
    have e : com t b = ((Nat.gcd t.natAbs b.natAbs : Nat) : Int) := by
      unfold com
      rw [if_neg z1]
    rw [e]
    exact List.ext_getElem? fun k => by
      rw [List.getElem?_set]
      split
      · rename_i hk
        subst hk
        rw [hc]
        split
        · rfl
        · rename_i hlt
          rw [List.getElem?_eq_none (by omega)] at hc
          cases hc
      · rfl
open Evl in
theorem ok__law_is_share (T : Txt P K mg) : FnOk P w K mg base CX0 2 T.f__law_is_share T.d__law_is_share ["_law_share", "_law_top", "_law_bottom"] (spIsShare T.C_Share) := by
  refine T.F__law_is_share.ok sc__law_is_share (fun vs H Q E h => ?_) (fun cdv A outer s H vs Q E hr h => ?_)
  · obtain ⟨x, t, b, rfl, _⟩ := h
    rfl
  · obtain ⟨x, t, b, rfl, ⟨dx, hx⟩, hb, st, sb, q⟩ := h
    refine ⟨_, (pss_cons (ps_if (PW.pt (pw_or (pt_not (pt_val (pe_callB (C8.call_isC T.ins_Share) (by rfl) T.n_isinstance (by decide +kernel) (pa_cons (pv 0) (pa_cons (pe_glob (v := .ref T.C_Share) rfl T.g_Share rfl) pa_nil))))) (pw_or1 (pt_cmpR op_eq (pv 2) pe_int (nomark _))))) (pss_one (ps_ret pe_bl)) pss_nil)
      (pss_cons (ps_set (i := 3) sc__law_is_share.nd rfl (.inl rfl) (pe_call (ok__law_gcd T) (hr.mono (by decide)) rfl T.g__law_gcd T.F__law_gcd.kp T.b__law_gcd .nil pass0 (pa_cons (pv 1) (pa_cons (pv 2) pa_nil))))
      (pss_cons (ps_if (pt_cmpR op_lt (pv 2) pe_int (nomark _)) (pss_one (ps_set (i := 3) sc__law_is_share.nd rfl (.inl rfl) (pe_un un_neg (pv 3)))) pss_nil)
      (pss_one (ps_ret (pe_and (pe_call (ok__law_same T) (hr.mono (by decide)) rfl T.g__law_same T.F__law_same.kp T.b__law_same .nil pass0 (pa_cons (pe_fld (pv 0) rfl) (pa_cons (pe_op op_fdivX (pv 1) (pv 3)) pa_nil))) (pe_one (pe_call (ok__law_same T) (hr.mono (by decide)) rfl T.g__law_same T.F__law_same.kp T.b__law_same .nil pass0 (pa_cons (pe_fld (pv 0) rfl) (pa_cons (pe_op op_fdivX (pv 2) (pv 3)) pa_nil)))))))))), ?_⟩
    refine q_when (b := false) (et_is (et_or (a := false) (b := false) (et_is (et_not (et_B (ev_cb (z := .bl true) (ea_cons (ev_var rfl) (ea_cons ev_c ea_nil)) (fun H1 e Q q => ⟨x, dx, _, rfl, e _ _ hx, q H1 (Ex.refl H1)⟩)))) rfl) (fun _ => et_is (et_test (ev_op (ev_var rfl) ev_c (rv_eq rfl))) (by simpa using hb))) rfl) (fun z => by cases z) (fun _ H1 e1 => ?_)
    refine q_asg (ev_call (ea_cons (ev_var rfl) (ea_cons (ev_var rfl) ea_nil)) (fun H2 e2 Q q E => ⟨t, b, rfl, sb, q⟩)) (fun H2 e2 => ?_)
    refine ev_com (t := t) hb rfl (ev_op (ev_var rfl) ev_c (fun H1 _ Q q => ⟨_, _, rfl, rfl, q H1 (Ex.refl H1)⟩)) (fun H3 e3 => ?_)
    have hx3 := e3 _ _ (e2 _ _ (e1 _ _ hx))
    have dv : ∀ i, CDivX i (com t b) := fun i => (sb.com hb).div (com_ne hb)
    refine s_ret (v := .bl true) (ev_is (ev_andV (a := true) (b := true) (ev_sameT (ev_fld (ev_var rfl) hx3 T.cl_Share T.na_Share_top rfl) (ev_op (ev_var rfl) (ev_var rfl) (rv_I (dv _))) rfl rfl rfl) (fun _ => ev_sameT (ev_fld (ev_var rfl) hx3 T.cl_Share T.na_Share_bottom rfl) (ev_op (ev_var rfl) (ev_var rfl) (rv_I (dv _))) rfl rfl rfl)) rfl) (fun H4 e4 => q H4 (((e1.trans e2).trans e3).trans e4))
/-- _law_number(source, parts) -/
def spNumber : Sp := fun vs H Q _ => ∃ (a : Addr) (m : Int), vs = [.ref a, .int m] ∧ Src H a ∧ 0 ≤ m ∧ m ≤ 5 ∧ ∀ H' n, n.natAbs < 10 ^ (10 * m.toNat + 1) → Src H' a → But a H H' → Q (.int n) H'
theorem p10 : (10 : Int) ^ (10 : Int).toNat = 10000000000 := by decide
theorem num_step {i : Nat} {n r : Int} (h0 : 0 ≤ n) (h : n < ((10 ^ (10 * i + 1) : Nat) : Int)) (r0 : 0 ≤ r) (r1 : r < 10000000000) : n * 10000000000 + r < ((10 ^ (10 * (i + 1) + 1) : Nat) : Int) := by
  have e : (10 ^ (10 * (i + 1) + 1) : Nat) = 10 ^ (10 * i + 1) * 10000000000 := by
    rw [show 10 * (i + 1) + 1 = 10 * i + 1 + 10 from by omega, Nat.pow_add]
  rw [e]
  generalize (10 ^ (10 * i + 1) : Nat) = p at *
  omega
theorem ok__law_number (T : Txt P K mg) : FnOk P w K mg base CX0 2 T.f__law_number T.d__law_number ["_law_source_here", "_law_parts"] spNumber := by
  refine T.F__law_number.ok sc__law_number (fun vs H Q E h => ?_) (fun cdv A outer s H vs Q E hr h => ?_)
  · obtain ⟨a, m, rfl, _⟩ := h
    rfl
  · obtain ⟨a, m, rfl, S, m0, m3, q⟩ := h
    refine ⟨_, (pss_cons (ps_set (i := 2) sc__law_number.nd rfl (.inl rfl) (pe_call (ok__law_take T) (hr.mono (by decide)) rfl T.g__law_take T.F__law_take.kp T.b__law_take .nil pass0 (pa_cons (pv 0) (pa_cons pe_int pa_nil))))
      (pss_cons (ps_for PassesOwn.never rfl (pi_range1 rfl T.n_range (pa_cons (pe_call (ok__law_take T) (hr.mono (by decide)) rfl T.g__law_take T.F__law_take.kp T.b__law_take .nil pass0 (pa_cons (pv 0) (pa_cons (pe_op op_add (pv 1) pe_int) pa_nil))) pa_nil)) (pg_name (i := 3) sc__law_number.nd rfl (.inl rfl)) (pss_one (ps_set (i := 2) sc__law_number.nd rfl (.inl rfl) (pe_op op_add (pe_op op_mulW (pv 2) (pe_op op_pow pe_int pe_int)) (pe_call (ok__law_take T) (hr.mono (by decide)) rfl T.g__law_take T.F__law_take.kp T.b__law_take .nil pass0 (pa_cons (pv 0) (pa_cons (pe_op op_pow pe_int pe_int) pa_nil)))))))
      (pss_cons (ps_if (pt_cmpR op_eq (pe_call (ok__law_take T) (hr.mono (by decide)) rfl T.g__law_take T.F__law_take.kp T.b__law_take .nil pass0 (pa_cons (pv 0) (pa_cons pe_int pa_nil))) pe_int (nomark _)) (pss_one (ps_ret (pe_un un_neg (pv 2)))) pss_nil)
      (pss_one (ps_ret (pv 2)))))), ?_⟩
    refine ⟨.ref a, rfl, a, 10, rfl, S, by decide, by decide, fun H1 r r0 r1 S1 B1 => ?_⟩
    refine ⟨.ref a, rfl, _, rfl, _, _, rfl, rfl, a, _, rfl, S1, by omega, by omega, fun H2 c c0 c1 S2 B2 => ?_⟩
    refine ⟨c, rfl, by omega, by omega, for_range (lo := 0) (n := c.toNat) (fun i σ H' => ∃ (n : Int) (v : Option V), σ = [some (.ref a), some (.int m), some (.int n), v] ∧ 0 ≤ n ∧ n < ((10 ^ (10 * i + 1) : Nat) : Int) ∧ Src H' a ∧ But a H H') ⟨r, _, rfl, r0, by simpa using r1, S2, B1.trans B2⟩ ?_ ?_⟩
    · rintro i σ H' hi ⟨n, v, rfl, n0, n1, S3, B3⟩
      have hi5 : i < 5 := by omega
      have nb : n.natAbs < 2 ^ 200 := by
        have z : (10 ^ (10 * i + 1) : Nat) ≤ 10 ^ 51 := Nat.pow_le_pow_right (by decide) (by omega)
        have y : (10 ^ 51 : Nat) < 2 ^ 200 := by decide
        omega
      refine ⟨_, rfl, _, _, rfl, rfl, ⟨by decide, by decide, by decide⟩, _, _, rfl, rfl, wide_mul (a := 200) (b := 64) nb (by decide) (by decide) (by decide) (by decide), ?_⟩
      refine ⟨.ref a, rfl, _, _, rfl, rfl, ⟨by decide, by decide, by decide⟩, a, _, rfl, S3, by decide, by decide, fun H4 d d0 d1 S4 B4 => ?_⟩
      rw [p10] at d1
      refine ⟨_, _, rfl, rfl, _, _, rfl, ?_, ?_, S4, B3.trans B4⟩
      · rw [p10]
        omega
      · rw [p10]
        exact num_step n0 n1 d0 d1
    · rintro σ H' ⟨n, v, rfl, n0, n1, S3, B3⟩
      have nn : n.natAbs < 10 ^ (10 * m.toNat + 1) := by
        have z : (10 ^ (10 * c.toNat + 1) : Nat) ≤ 10 ^ (10 * m.toNat + 1) := Nat.pow_le_pow_right (by decide) (by omega)
        omega
      refine ⟨.ref a, rfl, a, 2, rfl, S3, by decide, by decide, fun H4 d d0 d1 S4 B4 => ⟨rfl, _, rfl, ite2 (fun _ => ?_) (fun _ => ?_)⟩⟩
      · exact ⟨_, rfl, _, rfl, q _ _ (by rw [Int.natAbs_neg]; exact nn) S4 (B3.trans B4)⟩
      · exact ⟨_, rfl, q _ _ nn S4 (B3.trans B4)⟩
section
open Evl
theorem src_ne_tup {H : Hp} {a t : Addr} {xs : List V} (S : Src H a) (h : H t = some (.tup xs)) : t ≠ a := fun e => by
  obtain ⟨l, ns, ⟨i, x, k, m, h0, h2⟩, hl⟩ := S
  rw [e, h2] at h
  cases h
theorem But.tup {a t : Addr} {H H' : Hp} {xs : List V} (B : But a H H') (S : Src H a) (h : H t = some (.tup xs)) : H' t = some (.tup xs) := B t _ (src_ne_tup S h) h
theorem But.ex {a : Addr} {H H1 H2 : Hp} (B : But a H H1) (e : Ex H1 H2) : But a H H2 := fun b o n h => e b o (B b o n h)
theorem Src.ex {a : Addr} {H H1 : Hp} (S : Src H a) (e : Ex H H1) : Src H1 a := S.keep e
/-- the two numbers of a tuple -/
theorem ev_p0 {σ : L2.St} {H : Hp} {te : TE} {t : Addr} {p q : Int} (h : Ev te σ H (.ref t)) (ht : H t = some (.tup [.int p, .int q])) : Ev (tOp (rIxT K) te (tC (.int 0))) σ H (.int p) := ev_op h ev_c (rv_ixT (SqT.of ht) (atI_nat (j := 0) rfl))
theorem ev_p1 {σ : L2.St} {H : Hp} {te : TE} {t : Addr} {p q : Int} (h : Ev te σ H (.ref t)) (ht : H t = some (.tup [.int p, .int q])) : Ev (tOp (rIxT K) te (tC (.int 1))) σ H (.int q) := ev_op h ev_c (rv_ixT (SqT.of ht) (atI_nat (j := 1) rfl))
theorem ev_mulS {σ : L2.St} {H : Hp} {ta tb : TE} {i j : Int} (ha : Ev ta σ H (.int i)) (hb : Ev tb σ H (.int j)) (si : S40 i) (sj : S40 j) : Ev (tOp (rI CMulW fun i j => .int (i * j)) ta tb) σ H (.int (i * j)) := ev_op ha hb (rv_I (si.cm sj))
/-- _law_fraction(source, parts) -/
def spFraction : Sp := fun vs H Q _ => ∃ (a : Addr) (m : Int), vs = [.ref a, .int m] ∧ Src H a ∧ 0 ≤ m ∧ m ≤ 5 ∧ ∀ H' t p q, q ≠ 0 → p.natAbs < 10 ^ (10 * m.toNat + 1) → q.natAbs < 10 ^ (10 * m.toNat + 1) → H' t = some (.tup [.int p, .int q]) → Src H' a → But a H H' → Q (.ref t) H'
theorem ok__law_fraction (T : Txt P K mg) : FnOk P w K mg base CX0 3 T.f__law_fraction T.d__law_fraction ["_law_source_here", "_law_parts"] spFraction := by
  refine T.F__law_fraction.ok sc__law_fraction (fun vs H Q E h => ?_) (fun cdv A outer s H vs Q E hr h => ?_)
  · obtain ⟨a, m, rfl, _⟩ := h
    rfl
  · obtain ⟨a, m, rfl, S, m0, m5, k⟩ := h
    refine ⟨_, (pss_cons (ps_set (i := 2) sc__law_fraction.nd rfl (.inl rfl) (pe_call (ok__law_number T) (hr.mono (by decide)) rfl T.g__law_number T.F__law_number.kp T.b__law_number .nil pass0 (pa_cons (pv 0) (pa_cons (pv 1) pa_nil))))
      (pss_cons (ps_set (i := 3) sc__law_fraction.nd rfl (.inl rfl) (pe_call (ok__law_number T) (hr.mono (by decide)) rfl T.g__law_number T.F__law_number.kp T.b__law_number .nil pass0 (pa_cons (pv 0) (pa_cons (pv 1) pa_nil))))
      (pss_cons (ps_if (pt_cmpR op_eq (pv 3) pe_int (nomark _)) (pss_one (ps_set (i := 3) sc__law_fraction.nd rfl (.inl rfl) pe_int)) pss_nil)
      (pss_one (ps_ret (pe_tup (pa_cons (pv 2) (pa_cons (pv 3) pa_nil)))))))), ?_⟩
    refine ⟨.ref a, rfl, _, rfl, a, m, rfl, S, m0, m5, fun H1 p hp S1 B1 => ?_⟩
    refine ⟨.ref a, rfl, _, rfl, a, m, rfl, S1, m0, m5, fun H2 q hq S2 B2 => ?_⟩
    have fin : ∀ q' : Int, q' ≠ 0 → q'.natAbs < 10 ^ (10 * m.toNat + 1) → ∀ t, H2 t = none → Q (.ref t) (upd H2 t (.tup [.int p, .int q'])) := fun q' h0 h1 t ht => by
      obtain ⟨u, hu⟩ := S2.some
      exact k _ t p q' h0 hp h1 upd_same (S2.new ht) ((B1.trans B2).new hu ht)
    refine ⟨_, rfl, rfl, _, rfl, ite2 (fun z => ?_) (fun z => ?_)⟩
    · exact ⟨_, rfl, _, rfl, (by show 2 ≤ sizeLine; decide), fin 1 (by decide) (Nat.one_lt_pow (by omega) (by decide))⟩
    · exact ⟨_, rfl, _, rfl, (by show 2 ≤ sizeLine; decide), fin q (by simpa using z) hq⟩
end
section
open Evl
/-- _law_first(source, second) -/
def spFirst : Sp := fun vs H Q _ => ∃ (a f : Addr) (p0 q0 : Int), vs = [.ref a, .ref f] ∧ Src H a ∧ H f = some (.tup [.int p0, .int q0]) ∧ q0 ≠ 0 ∧ p0.natAbs < 10 ^ 21 ∧ q0.natAbs < 10 ^ 21 ∧
  ∀ H' t p q, q ≠ 0 → S40 p → S40 q → H' t = some (.tup [.int p, .int q]) → Src H' a → But a H H' → Q (.ref t) H'
theorem s40_21 {p : Int} (h : p.natAbs < 10 ^ 21) : S40 p := Nat.le_of_lt (Nat.lt_trans h (by decide +kernel))
theorem s40_mul {i j : Int} {a b : Nat} (h : i.natAbs ≤ a) (g : j.natAbs ≤ b) (hab : a * b ≤ 10 ^ 40) : S40 (i * j) := by
  unfold S40
  rw [Int.natAbs_mul]
  exact Nat.le_trans (Nat.mul_le_mul h g) hab
theorem s40_k {i : Int} {a : Nat} (h : i.natAbs ≤ a) (ha : a ≤ 10 ^ 40) : S40 i := Nat.le_trans h ha
theorem ok__law_first (T : Txt P K mg) : FnOk P w K mg base CX0 4 T.f__law_first T.d__law_first ["_law_source_here", "_law_second"] spFirst := by
  refine T.F__law_first.ok sc__law_first (fun vs H Q E h => ?_) (fun cdv A outer s H vs Q E hr h => ?_)
  · obtain ⟨a, f, p0, q0, rfl, _⟩ := h
    rfl
  · obtain ⟨a, f, p0, q0, rfl, S, hf, q00, hp0, hq0, k⟩ := h
    refine ⟨_, (pss_cons (ps_set (i := 2) sc__law_first.nd rfl (.inl rfl) (pe_call (ok__law_fraction T) (hr.mono (by decide)) rfl T.g__law_fraction T.F__law_fraction.kp T.b__law_fraction .nil pass0 (pa_cons (pv 0) (pa_cons pe_int pa_nil))))
      (pss_cons (ps_if (pt_cmpR op_eq (pe_call (ok__law_take T) (hr.mono (by decide)) rfl T.g__law_take T.F__law_take.kp T.b__law_take .nil pass0 (pa_cons (pv 0) (pa_cons pe_int pa_nil))) pe_int (nomark _)) (pss_one (ps_ret (pv 2))) pss_nil)
      (pss_cons (ps_set (i := 3) sc__law_first.nd rfl (.inl rfl) (pe_op op_sub (pe_call (ok__law_take T) (hr.mono (by decide)) rfl T.g__law_take T.F__law_take.kp T.b__law_take .nil pass0 (pa_cons (pv 0) (pa_cons pe_int pa_nil))) pe_int))
      (pss_cons (ps_set (i := 4) sc__law_first.nd rfl (.inl rfl) (pe_op op_add pe_int (pe_call (ok__law_take T) (hr.mono (by decide)) rfl T.g__law_take T.F__law_take.kp T.b__law_take .nil pass0 (pa_cons (pv 0) (pa_cons pe_int pa_nil)))))
      (pss_cons (ps_set (i := 5) sc__law_first.nd rfl (.inl rfl) (pe_op op_sub (pe_call (ok__law_take T) (hr.mono (by decide)) rfl T.g__law_take T.F__law_take.kp T.b__law_take .nil pass0 (pa_cons (pv 0) (pa_cons pe_int pa_nil))) pe_int))
      (pss_one (ps_ret (pe_tup (pa_cons (pe_op op_add (pe_op op_mulW (pe_op op_mulW (pe_ix ix_tup (pv 1) pe_int (fun _ _ => rfl)) (pv 3)) (pv 4)) (pv 5)) (pa_cons (pe_op op_mulW (pe_ix ix_tup (pv 1) pe_int (fun _ _ => rfl)) (pv 4)) pa_nil)))))))))), ?_⟩
    refine ⟨.ref a, rfl, a, 2, rfl, S, by decide, by decide, fun H1 t p q hq0' hp hq ht S1 B1 => ?_⟩
    refine ⟨.ref a, rfl, a, 3, rfl, S1, by decide, by decide, fun H2 c r0 r1 S2 B2 => ⟨rfl, _, rfl, ite2 (fun z => ?_) (fun z => ?_)⟩⟩
    · exact ⟨_, rfl, k _ t p q hq0' (s40_21 hp) (s40_21 hq) (B2.tup S1 ht) S2 (B1.trans B2)⟩
    · refine ⟨.ref a, rfl, a, 2001, rfl, S2, by decide, by decide, fun H3 tm m0 m1 S3 B3 => ⟨_, _, rfl, rfl, ?_⟩⟩
      refine ⟨.ref a, rfl, a, 1000000, rfl, S3, by decide, by decide, fun H4 pt c0 c1 S4 B4 => ⟨_, _, rfl, rfl, ?_⟩⟩
      refine ⟨.ref a, rfl, a, 3, rfl, S4, by decide, by decide, fun H5 bs b0 b1 S5 B5 => ⟨_, _, rfl, rfl, ?_⟩⟩
      have B := (((B1.trans B2).trans B3).trans B4).trans B5
      have hf5 := B.tup S hf
      have a1 : (tm - 1000).natAbs ≤ 1000 := by omega
      have a2 : (1 + pt).natAbs ≤ 1000000 := by omega
      have a3 : (bs - 1).natAbs ≤ 1 := by omega
      have s1 : (p0 * (tm - 1000)).natAbs ≤ 10 ^ 24 := by
        rw [Int.natAbs_mul]
        exact Nat.le_trans (Nat.mul_le_mul (Nat.le_of_lt hp0) a1) (by decide +kernel)
      have s2 : (p0 * (tm - 1000) * (1 + pt)).natAbs ≤ 10 ^ 30 := by
        rw [Int.natAbs_mul]
        exact Nat.le_trans (Nat.mul_le_mul s1 a2) (by decide +kernel)
      have s3 : S40 (p0 * (tm - 1000) * (1 + pt) + (bs - 1)) := by
        have z : (10 ^ 30 + 1 : Nat) ≤ 10 ^ 40 := by decide +kernel
        unfold S40
        omega
      have s4 : S40 (q0 * (1 + pt)) := s40_mul (Nat.le_of_lt hq0) a2 (by decide +kernel)
      refine ⟨_, rfl, f, _, 0, _, rfl, rfl, SqT.of hf5, atI_nat (j := 0) rfl, _, rfl, _, _, rfl, rfl, (s40_21 hp0).cm (s40_k a1 (by decide +kernel)), ?_⟩
      refine ⟨_, rfl, _, _, rfl, rfl, (s40_k s1 (by decide +kernel)).cm (s40_k a2 (by decide +kernel)), _, rfl, _, _, rfl, rfl, ?_⟩
      refine ⟨_, rfl, f, _, 1, _, rfl, rfl, SqT.of hf5, atI_nat (j := 1) rfl, _, rfl, _, _, rfl, rfl, (s40_21 hq0).cm (s40_k a2 (by decide +kernel)), (by show 2 ≤ sizeLine; decide), fun u hu => ?_⟩
      obtain ⟨o, ho⟩ := S5.some
      exact k _ u _ _ (Int.mul_ne_zero q00 (by omega)) s3 s4 upd_same (S5.new hu) (B.new ho hu)
/-- _law_right_error(error), the handled one -/
def spRight (C : Addr) (p : Addr × Obj) : Sp := fun vs H Q _ => vs = [.ref p.1] ∧ Zc (.ref C) none p.2 ∧ (∃ vs, p.2.data = .fields vs) ∧ ∀ H', Ex H H' → Q (.bl true) H'
theorem ok__law_right_error (T : Txt P K mg) : FnP P w K mg base 1 T.f__law_right_error T.d__law_right_error ["_law_error"] (spRight T.C_ZeroBelow) := by
  refine T.F__law_right_error.okP sc__law_right_error (fun p vs H Q E h => ?_) (fun p cdv A outer s H vs Q E hot h => ?_)
  · obtain ⟨rfl, _⟩ := h
    rfl
  · obtain ⟨rfl, hz, hf, q⟩ := h
    obtain ⟨a, oe⟩ := p
    refine ⟨_, (pss_one (ps_ret (pe_and (pe_callB (call_isP T.x_ZeroBelow List.mem_cons_self hz hf) (by rfl) T.n_isinstance (by decide +kernel) (pa_cons (pv 0) (pa_cons (pe_glob (v := .ref T.C_HornError) rfl T.g_HornError rfl) pa_nil))) (pe_and (pe_callB (call_isP T.x_ZeroBelow List.mem_cons_self hz hf) (by rfl) T.n_isinstance (by decide +kernel) (pa_cons (pv 0) (pa_cons (pe_bltn (v := .ty "ValueError") (u := .type "ValueError") (by rfl) T.n_ValueError (by decide +kernel) rfl) pa_nil))) (pe_one (pe_not (pe_callB (call_isP T.x_ZeroBelow List.mem_cons_self hz hf) (by rfl) T.n_isinstance (by decide +kernel) (pa_cons (pv 0) (pa_cons (pe_glob (v := .ref T.C_BadShare) rfl T.E_BadShare.gC rfl) pa_nil))))))))), ?_⟩
    obtain ⟨b1, k1, rfl⟩ := T.k_ZeroBelow_HornError
    obtain ⟨b2, k2, rfl⟩ := T.k_ZeroBelow_ValueError
    obtain ⟨b3, k3, rfl⟩ := T.k_ZeroBelow_BadShare
    refine ⟨_, rfl, rfl, .ref T.C_HornError, .ref T.C_HornError, _, rfl, fun u e => e, (fun dx e => nomatch e), k1, _, rfl, iteT ?_⟩
    refine ⟨_, rfl, rfl, .ty "ValueError", .type "ValueError", _, rfl, fun u e => e, (fun dx e => nomatch e), k2, _, rfl, iteT ?_⟩
    refine ⟨_, rfl, rfl, .ref T.C_BadShare, .ref T.C_BadShare, _, rfl, fun u e => e, (fun dx e => nomatch e), k3, _, rfl, ?_⟩
    exact q H (Ex.refl H)
/-- the same, as the suite asks it -/
def spRightS (C a : Addr) (cls : Value) (d : Option Addr) : Sp := fun vs H Q _ => vs = [.ref a] ∧ cls = .ref C ∧ d = none ∧ ∀ H', Ex H H' → Q (.bl true) H'
/-- a worth nothing: zero over s -/
def gD : Int → Int → V := fun i j => .int (i.fdiv j)
abbrev EW (n : Nat) (W : WX) : XK := fun cls d H => ∀ σ : L2.St, σ.length = n → W cls d σ H
theorem Rep.bin {C : Addr} {H : Hp} {x y : V} {p q r s : Int} {spF spR : Sp} {E E2 : XK} {gi : Int → Int → V} {Q : VK} (R1 : Rep C H x p q) (R2 : Rep C H y r s) (hn : (∃ a, x = .ref a) ∨ ∃ b, y = .ref b)
    (hF : ∀ a, x = .ref a → spF [.ref a, y] H Q E) (hG : ∀ b, y = .ref b → spR [.ref b, x] H Q E2) : rBin C spF spR E E2 gi x y H Q := by
  obtain ⟨_, _, _, ⟨a, rfl, ⟨dx, hx⟩⟩ | ⟨rfl, rfl⟩⟩ := R1
  · obtain ⟨_, _, _, ⟨b, rfl, ⟨dy, hy⟩⟩ | ⟨rfl, rfl⟩⟩ := R2
    · exact .inl ⟨a, dx, _, b, dy, _, rfl, rfl, hx, hy, hF a rfl⟩
    · exact .inr (.inl ⟨a, dx, _, r, rfl, rfl, hx, hF a rfl⟩)
  · obtain ⟨_, _, _, ⟨b, rfl, ⟨dy, hy⟩⟩ | ⟨rfl, rfl⟩⟩ := R2
    · exact .inr (.inr ⟨p, b, dy, _, rfl, rfl, hy, hG b rfl⟩)
    · rcases hn with ⟨a, h⟩ | ⟨a, h⟩ <;> cases h
/-- _law_no_floor(one, other), the other one zero -/
def spNo (C : Addr) : Sp := fun vs H Q _ => ∃ (x y : V) (p q s : Int), vs = [x, y] ∧ Rep C H x p q ∧ Rep C H y 0 s ∧ ((∃ a, x = .ref a) ∨ ∃ b, y = .ref b) ∧ ∀ H', Ex H H' → Q (.bl true) H'
theorem three {σ : L2.St} (h : σ.length = 3) : ∃ s0 s1 s2, σ = [s0, s1, s2] := by
  match σ, h with
  | [s0, s1, s2], _ => exact ⟨s0, s1, s2, rfl⟩
theorem ok__law_no_floor (T : Txt P K mg) : FnOk P w K mg base CX0 6 T.f__law_no_floor T.d__law_no_floor ["_law_one", "_law_other"] (spNo T.C_Share) := by
  refine T.F__law_no_floor.ok sc__law_no_floor (fun vs H Q E h => ?_) (fun cdv A outer s H vs Q E hr h => ?_)
  · obtain ⟨x, y, p, q, s, rfl, _⟩ := h
    rfl
  · obtain ⟨x, y, p, q, s, rfl, R1, R2, hn, k⟩ := h
    refine ⟨_, (pss_cons (L2N.ps_try_as (i := 2)
      (tb := fun W => tAsg (tOp (rBin T.C_Share (spDiv T.C_Share T.C_ZeroBelow) (spRdiv T.C_Share T.C_ZeroBelow) (EW 3 W) (EW 3 W) gD) (tVar 0) (tVar 1)) (gName 0))
      (ts := fun a cls d => tRet (tCall (spRightS T.C_ZeroBelow a cls d) [] E0 (tCons (tVar 2) tNil)))
      (Wout := fun _ _ _ _ => False) rfl rfl sc__law_no_floor.nd rfl rfl ⟨rfl, by decide, Or.inl T.E_ZeroBelow.gC⟩ takes0N
      (fun W pn xe tk _ => (pss_one (ps_set (i := 0) sc__law_no_floor.nd rfl (.inl rfl) (pe_op (op_own (op := .FloorDiv) (gi := gD) T.r_Share_floordiv io_div (ok_Share_floordiv T) (ok_Share_rfloordiv T) hr hr T.b_Share_floordiv T.b_Share_rfloordiv (passLen tk) (passLen tk)) (pv 0) (pv 1)))))
      (fun a oe cls d pn hz hf => (pss_one (ps_ret (pe_callQ (ok__law_right_error T) (room_suite (hr.mono (by decide))) (hot1_suite hz hf) List.mem_cons_self rfl T.g__law_right_error T.F__law_right_error.kp T.b__law_right_error (fun vs H Q h => ⟨h.1, h.2.1 ▸ h.2.2.1 ▸ hz.zc, hf, h.2.2.2⟩) (pa_cons (pv 2) pa_nil))))))
      (pss_one (ps_ret pe_bl))), ?_⟩
    have raised : ∀ (H' : Hp), Ex H H' → ∀ (W : WX), (∀ σ : L2.St, σ.length = 3 → W (.ref T.C_ZeroBelow) none σ H') → EW 3 W (.ref T.C_ZeroBelow) none H' := fun _ _ _ h => h
    refine ⟨_, rfl, _, rfl, R1.bin R2 hn (fun a ea => ?_) (fun b eb => ?_)⟩
    · subst ea
      refine ⟨a, y, p, q, 0, s, rfl, R1, R2, fun z => absurd rfl z, fun _ H' e σ hσ => ?_⟩
      obtain ⟨s0, s1, s2, rfl⟩ := three hσ
      refine ⟨true, T.E_ZeroBelow.te, fun _ a na => ?_, fun q => Bool.noConfusion q⟩
      exact ⟨_, rfl, rfl, rfl, rfl, fun H2 e2 => k H2 (e.trans e2)⟩
    · subst eb
      refine ⟨b, x, 0, s, p, q, rfl, R2, R1, fun z => absurd rfl z, fun _ H' e σ hσ => ?_⟩
      obtain ⟨s0, s1, s2, rfl⟩ := three hσ
      refine ⟨true, T.E_ZeroBelow.te, fun _ a na => ?_, fun q => Bool.noConfusion q⟩
      exact ⟨_, rfl, rfl, rfl, rfl, fun H2 e2 => k H2 (e.trans e2)⟩
theorem mOver (T : Txt P K mg) : Meth K T.C_Share "over" T.f_Share_over := ⟨T.m_Share_over, T.i_Share_over, T.F_Share_over.kp⟩
/-- _law_no_over(one, other), the other one zero -/
def spNoO (C : Addr) : Sp := fun vs H Q _ => ∃ (x : Addr) (y : V) (p q s : Int), vs = [.ref x, y] ∧ Rep C H (.ref x) p q ∧ Rep C H y 0 s ∧ ∀ H', Ex H H' → Q (.bl true) H'
theorem ok__law_no_over (T : Txt P K mg) : FnOk P w K mg base CX0 6 T.f__law_no_over T.d__law_no_over ["_law_one", "_law_other"] (spNoO T.C_Share) := by
  refine T.F__law_no_over.ok sc__law_no_over (fun vs H Q E h => ?_) (fun cdv A outer s H vs Q E hr h => ?_)
  · obtain ⟨x, y, p, q, s, rfl, _⟩ := h
    rfl
  · obtain ⟨x, y, p, q, s, rfl, R1, R2, k⟩ := h
    refine ⟨_, (pss_cons (L2N.ps_try_as (i := 2)
      (tb := fun W => tDrop (tMeth T.C_Share "over" (spOver T.C_Share T.C_ZeroBelow) [] (EW 3 W) (tVar 0) (tCons (tVar 1) tNil)))
      (ts := fun a cls d => tRet (tCall (spRightS T.C_ZeroBelow a cls d) [] E0 (tCons (tVar 2) tNil)))
      (Wout := fun _ _ _ _ => False) rfl rfl sc__law_no_over.nd rfl rfl ⟨rfl, by decide, Or.inl T.E_ZeroBelow.gC⟩ takes0N
      (fun W pn xe tk _ => (pss_one (ps_expr (pe_meth (pv 0) T.cl_Share (mOver T) (ok_Share_over T) hr T.b_Share_over .nil (passLen tk) (pa_cons (pv 1) pa_nil)))))
      (fun a oe cls d pn hz hf => (pss_one (ps_ret (pe_callQ (ok__law_right_error T) (room_suite (hr.mono (by decide))) (hot1_suite hz hf) List.mem_cons_self rfl T.g__law_right_error T.F__law_right_error.kp T.b__law_right_error (fun vs H Q h => ⟨h.1, h.2.1 ▸ h.2.2.1 ▸ hz.zc, hf, h.2.2.2⟩) (pa_cons (pv 2) pa_nil))))))
      (pss_one (ps_ret pe_bl))), ?_⟩
    obtain ⟨dx, hx⟩ := R1.shr
    refine ⟨_, rfl, x, dx, _, rfl, hx, rfl, _, rfl, x, y, p, q, 0, s, rfl, R1, R2, fun z => absurd rfl z, fun _ H' e σ hσ => ?_⟩
    obtain ⟨s0, s1, s2, rfl⟩ := three hσ
    refine ⟨true, T.E_ZeroBelow.te, fun _ a na => ?_, fun q => Bool.noConfusion q⟩
    exact ⟨_, rfl, rfl, rfl, rfl, fun H2 e2 => k H2 (e.trans e2)⟩
/-- one // other of two things that are worth p / q and r / s -/
theorem rv_div (T : Txt P K mg) {E E2 : XK} {H : Hp} {x y : V} {p q r s : Int} (R1 : Rep T.C_Share H x p q) (R2 : Rep T.C_Share H y r s) (r0 : r ≠ 0) (hn : (∃ a, x = .ref a) ∨ ∃ b, y = .ref b) :
    RV (rBin T.C_Share (spDiv T.C_Share T.C_ZeroBelow) (spRdiv T.C_Share T.C_ZeroBelow) E E2 gD) x y H (.int ((p * s).fdiv (q * r))) := fun H1 e Q k => by
  replace R1 := R1.mono e
  replace R2 := R2.mono e
  refine R1.bin R2 hn (fun a ea => ?_) (fun b eb => ?_)
  · subst ea
    exact ⟨a, y, p, q, r, s, rfl, R1, R2, fun _ H2 e2 => k H2 e2, fun z => absurd z r0⟩
  · subst eb
    exact ⟨b, x, r, s, p, q, rfl, R2, R1, fun _ H2 e2 => k H2 e2, fun z => absurd z r0⟩
end
section
open Evl
theorem RepS.is {C : Addr} {H : Hp} {z : Addr} {N D : Int} (R : RepS C H z N D) (sN : Sz N) (sD : Sz D) {Q : VK} {E : XK} (q : ∀ H', Ex H H' → Q (.bl true) H') : spIsShare C [.ref z, .int N, .int D] H Q E := ⟨z, N, D, rfl, R.2, R.1, sN, sD, q⟩
theorem ev_div {f : Int → Int → V} {σ : L2.St} {H : Hp} {ta tb : TE} {i j : Int} (ha : Ev ta σ H (.int i)) (hb : Ev tb σ H (.int j)) (h0 : j ≠ 0) (sj : Sz j) : Ev (tOp (rI CDivX f) ta tb) σ H (f i j) := ev_op ha hb (rv_I (sj.div h0))
/-- _law_quotients(one, other, p, q) -/
def spQs (C : Addr) : Sp := fun vs H Q _ => ∃ (x : Addr) (y : V) (tp tq : Addr) (p q r s : Int), vs = [.ref x, y, .ref tp, .ref tq] ∧ Rep C H (.ref x) p q ∧ Rep C H y r s ∧ H tp = some (.tup [.int p, .int q]) ∧ H tq = some (.tup [.int r, .int s]) ∧ ∀ H', Ex H H' → Q (.bl true) H'
theorem ok__law_quotients (T : Txt P K mg) : FnOk P w K mg base CX0 7 T.f__law_quotients T.d__law_quotients ["_law_one", "_law_other", "_law_p", "_law_q"] (spQs T.C_Share) := by
  refine T.F__law_quotients.ok sc__law_quotients (fun vs H Q E h => ?_) (fun cdv A outer s H vs Q E hr h => ?_)
  · obtain ⟨x, y, tp, tq, p, q, r, s, rfl, _⟩ := h
    rfl
  · obtain ⟨x, y, tp, tq, p, q, r, d, rfl, R1, R2, hp, hq, k⟩ := h
    refine ⟨_, (pss_cons (ps_if (pt_cmpR op_eq (pe_ix ix_tup (pv 3) pe_int (fun _ _ => rfl)) pe_int (nomark _)) (pss_one (ps_ret (pe_and (pe_call (ok__law_no_floor T) (hr.mono (by decide)) rfl T.g__law_no_floor T.F__law_no_floor.kp T.b__law_no_floor .nil pass0 (pa_cons (pv 0) (pa_cons (pv 1) pa_nil))) (pe_one (pe_call (ok__law_no_over T) (hr.mono (by decide)) rfl T.g__law_no_over T.F__law_no_over.kp T.b__law_no_over .nil pass0 (pa_cons (pv 0) (pa_cons (pv 1) pa_nil))))))) pss_nil)
      (pss_cons (ps_if (pt_not (pt_val (pe_call (ok__law_same T) (hr.mono (by decide)) rfl T.g__law_same T.F__law_same.kp T.b__law_same .nil pass0 (pa_cons (pe_op (op_own (op := .FloorDiv) (gi := gD) (E := E0) (E2 := E0) T.r_Share_floordiv io_div (ok_Share_floordiv T) (ok_Share_rfloordiv T) (hr.mono (by decide)) (hr.mono (by decide)) T.b_Share_floordiv T.b_Share_rfloordiv passN passN) (pv 0) (pv 1)) (pa_cons (pe_op op_fdivX (pe_op op_mulW (pe_ix ix_tup (pv 2) pe_int (fun _ _ => rfl)) (pe_ix ix_tup (pv 3) pe_int (fun _ _ => rfl))) (pe_op op_mulW (pe_ix ix_tup (pv 2) pe_int (fun _ _ => rfl)) (pe_ix ix_tup (pv 3) pe_int (fun _ _ => rfl)))) pa_nil))))) (pss_one (ps_ret pe_bl)) pss_nil)
      (pss_one (ps_ret (pe_call (ok__law_is_share T) (hr.mono (by decide)) rfl T.g__law_is_share T.F__law_is_share.kp T.b__law_is_share .nil pass0 (pa_cons (pe_meth (pv 0) T.cl_Share (mOver T) (ok_Share_over T) (hr.mono (by decide)) T.b_Share_over .nil passN (pa_cons (pv 1) pa_nil)) (pa_cons (pe_op op_mulW (pe_ix ix_tup (pv 2) pe_int (fun _ _ => rfl)) (pe_ix ix_tup (pv 3) pe_int (fun _ _ => rfl))) (pa_cons (pe_op op_mulW (pe_ix ix_tup (pv 2) pe_int (fun _ _ => rfl)) (pe_ix ix_tup (pv 3) pe_int (fun _ _ => rfl))) pa_nil)))))))), ?_⟩
    have sp : S40 p := R1.2.1
    have sq : S40 q := R1.2.2.1
    have q0 : q ≠ 0 := R1.1
    have sr : S40 r := R2.2.1
    have sd : S40 d := R2.2.2.1
    have d0 : d ≠ 0 := R2.1
    refine q_when (et_test (ev_op (ev_p0 (ev_var rfl) hq) ev_c (rv_eq rfl))) (fun z H1 e1 => ?_) (fun z H1 e1 => ?_)
    · have r0 : r = 0 := by simpa using z
      subst r0
      refine s_ret (v := .bl true) (ev_is (ev_andV (a := true) (b := true) (ev_call (ea_cons (ev_var rfl) (ea_cons (ev_var rfl) ea_nil)) fun H2 e2 Q k E => ⟨.ref x, y, p, q, d, rfl, (R1.mono e1).mono e2, (R2.mono e1).mono e2, .inl ⟨x, rfl⟩, k⟩)
        (fun _ => ev_call (ea_cons (ev_var rfl) (ea_cons (ev_var rfl) ea_nil)) fun H2 e2 Q k E => ⟨x, y, p, q, d, rfl, (R1.mono e1).mono e2, (R2.mono e1).mono e2, k⟩)) rfl) (fun H2 e2 => k H2 (e1.trans e2))
    · have r0 : r ≠ 0 := by simpa using z
      have hp1 := e1 _ _ hp
      have hq1 := e1 _ _ hq
      have qr0 : q * r ≠ 0 := Int.mul_ne_zero q0 r0
      refine q_when (b := false) (et_is (et_not (et_B (ev_sameT (ev_op (ev_var rfl) (ev_var rfl) (rv_div T (R1.mono e1) (R2.mono e1) r0 (.inl ⟨x, rfl⟩))) (ev_div (ev_mulS (ev_p0 (ev_var rfl) hp1) (ev_p1 (ev_var rfl) hq1) sp sd) (ev_mulS (ev_p1 (ev_var rfl) hp1) (ev_p0 (ev_var rfl) hq1) sq sr) qr0 (sz80 (sq.mul sr))) rfl rfl rfl))) rfl) (fun z => by cases z) (fun _ H2 e2 => ?_)
      have e12 := e1.trans e2
      have R12 := R1.mono e12
      obtain ⟨dx, hx⟩ := R12.shr
      refine ⟨_, rfl, x, dx, _, rfl, hx, rfl, _, rfl, x, y, p, q, r, d, rfl, R12, R2.mono e12, fun _ H3 z e3 hz => ?_, fun z => absurd z r0⟩
      have e13 := e12.trans e3
      have hp3 := e13 _ _ hp
      have hq3 := e13 _ _ hq
      refine ⟨_, rfl, tp, _, 0, _, rfl, rfl, SqT.of hp3, atI_nat (j := 0) rfl, _, rfl, tq, _, 1, _, rfl, rfl, SqT.of hq3, atI_nat (j := 1) rfl, _, _, rfl, rfl, sp.cm sd, ?_⟩
      refine ⟨_, rfl, tp, _, 1, _, rfl, rfl, SqT.of hp3, atI_nat (j := 1) rfl, _, rfl, tq, _, 0, _, rfl, rfl, SqT.of hq3, atI_nat (j := 0) rfl, _, _, rfl, rfl, sq.cm sr, ?_⟩
      exact hz.is (E := E0) (sz80 (sp.mul sd)) (sz80 (sq.mul sr)) fun H4 e4 => k H4 (e13.trans e4)
/-- _law_under(number, other, q) -/
def spUnder (C : Addr) : Sp := fun vs H Q _ => ∃ (n : Int) (y tq : Addr) (r s : Int), vs = [.int n, .ref y, .ref tq] ∧ S40 n ∧ Rep C H (.ref y) r s ∧ H tq = some (.tup [.int r, .int s]) ∧ ∀ H', Ex H H' → Q (.bl true) H'
theorem s40_1 : S40 1 := Nat.le_trans (show (1 : Int).natAbs ≤ 1 from Nat.le_refl _) (by decide +kernel)
theorem s40_0 : S40 0 := Nat.zero_le _
theorem rep_int {C : Addr} {H : Hp} {n : Int} (h : S40 n) : Rep C H (.int n) n 1 := ⟨by decide, h, s40_1, .inr ⟨rfl, rfl⟩⟩
theorem ok__law_under (T : Txt P K mg) : FnOk P w K mg base CX0 7 T.f__law_under T.d__law_under ["_law_number_here", "_law_other", "_law_q"] (spUnder T.C_Share) := by
  refine T.F__law_under.ok sc__law_under (fun vs H Q E h => ?_) (fun cdv A outer s H vs Q E hr h => ?_)
  · obtain ⟨n, y, tq, r, s, rfl, _⟩ := h
    rfl
  · obtain ⟨n, y, tq, r, d, rfl, sn, R2, hq, k⟩ := h
    refine ⟨_, (pss_cons (ps_if (pt_cmpR op_eq (pe_ix ix_tup (pv 2) pe_int (fun _ _ => rfl)) pe_int (nomark _)) (pss_one (ps_ret (pe_call (ok__law_no_floor T) (hr.mono (by decide)) rfl T.g__law_no_floor T.F__law_no_floor.kp T.b__law_no_floor .nil pass0 (pa_cons (pv 0) (pa_cons (pv 1) pa_nil))))) pss_nil)
      (pss_one (ps_ret (pe_call (ok__law_same T) (hr.mono (by decide)) rfl T.g__law_same T.F__law_same.kp T.b__law_same .nil pass0 (pa_cons (pe_op (op_own (op := .FloorDiv) (gi := gD) (E := E0) (E2 := E0) T.r_Share_floordiv io_div (ok_Share_floordiv T) (ok_Share_rfloordiv T) (hr.mono (by decide)) (hr.mono (by decide)) T.b_Share_floordiv T.b_Share_rfloordiv passN passN) (pv 0) (pv 1)) (pa_cons (pe_op op_fdivX (pe_op op_mulW (pv 0) (pe_ix ix_tup (pv 2) pe_int (fun _ _ => rfl))) (pe_ix ix_tup (pv 2) pe_int (fun _ _ => rfl))) pa_nil)))))), ?_⟩
    have sr : S40 r := R2.2.1
    have sd : S40 d := R2.2.2.1
    refine q_when (et_test (ev_op (ev_p0 (ev_var rfl) hq) ev_c (rv_eq rfl))) (fun z H1 e1 => ?_) (fun z H1 e1 => ?_)
    · have r0 : r = 0 := by simpa using z
      subst r0
      exact s_ret (v := .bl true) (ev_call (ea_cons (ev_var rfl) (ea_cons (ev_var rfl) ea_nil)) fun H2 e2 Q k E => ⟨.int n, .ref y, n, 1, d, rfl, rep_int sn, (R2.mono e1).mono e2, .inr ⟨y, rfl⟩, k⟩) (fun H2 e2 => k H2 (e1.trans e2))
    · have r0 : r ≠ 0 := by simpa using z
      have hq1 := e1 _ _ hq
      exact s_ret (v := .bl true) (ev_sameT (ev_op (ev_var rfl) (ev_var rfl) (rv_div T (rep_int sn) (R2.mono e1) r0 (.inr ⟨y, rfl⟩))) (ev_div (ev_mulS (ev_var rfl) (ev_p1 (ev_var rfl) hq1) sn sd) (ev_p0 (ev_var rfl) hq1) r0 sr.sz) rfl rfl (by rw [Int.one_mul])) (fun H2 e2 => k H2 (e1.trans e2))
theorem low_zero {q : Int} (h : q ≠ 0) : lowT 0 q = lowT 0 1 ∧ lowB 0 q = lowB 0 1 := by
  have a := lowT_mul 0 1 h (by decide)
  have b := lowB_mul 0 1 h (by decide)
  rw [Int.zero_mul, Int.one_mul] at a b
  exact ⟨a, b⟩
theorem ev_qs {C : Addr} {σ : L2.St} {H : Hp} {ta tb tc td : TE} {x : Addr} {y : V} {tp tq : Addr} {p q r s : Int} {E : XK} (ha : Ev ta σ H (.ref x)) (hb : Ev tb σ H y) (hc : Ev tc σ H (.ref tp)) (hd : Ev td σ H (.ref tq)) (R1 : Rep C H (.ref x) p q) (R2 : Rep C H y r s) (hp : H tp = some (.tup [.int p, .int q])) (hq : H tq = some (.tup [.int r, .int s])) :
    EvT (tNot (tB (tCall (spQs C) [] E (tCons ta (tCons tb (tCons tc (tCons td tNil))))))) σ H false :=
  et_is (et_not (et_B (ev_call (z := .bl true) (ea_cons ha (ea_cons hb (ea_cons hc (ea_cons hd ea_nil)))) fun H1 e Q k E => ⟨x, y, tp, tq, p, q, r, s, rfl, R1.mono e, R2.mono e, e _ _ hp, e _ _ hq, k⟩))) rfl
theorem ev_qsT {C : Addr} {σ : L2.St} {H : Hp} {ta tb tc td te : TE} {x : Addr} {y : V} {tp : Addr} {p q r s : Int} {E : XK} (ha : Ev ta σ H (.ref x)) (hb : Ev tb σ H y) (hc : Ev tc σ H (.ref tp)) (hd : Ev td σ H (.int r)) (he : Ev te σ H (.int s)) (R1 : Rep C H (.ref x) p q) (R2 : Rep C H y r s) (hp : H tp = some (.tup [.int p, .int q])) :
    EvT (tNot (tB (tCall (spQs C) [] E (tCons ta (tCons tb (tCons tc (tCons (tTup (tCons td (tCons te tNil))) tNil))))))) σ H false := by
  refine et_is (et_not (et_B (b := true) ?_)) rfl
  exact fun H1 e1 Q k => ha H1 e1 _ fun H2 e2 => hb H2 (e1.trans e2) _ fun H3 e3 => hc H3 ((e1.trans e2).trans e3) _ fun H4 e4 => hd H4 (((e1.trans e2).trans e3).trans e4) _ fun H5 e5 => he H5 ((((e1.trans e2).trans e3).trans e4).trans e5) _ fun H6 e6 =>
    ⟨(by show 2 ≤ sizeLine; decide), fun t ht => by
      have e26 := (((e2.trans e3).trans e4).trans e5).trans e6
      have e := (e1.trans e26).trans (Ex.new (o := .tup [.int r, .int s]) ht)
      exact ⟨x, y, tp, t, p, q, r, s, rfl, R1.mono e, R2.mono e, e _ _ hp, upd_same, fun H7 e7 => k H7 ((e26.trans (Ex.new ht)).trans e7)⟩⟩
theorem ev_un1 {C : Addr} {σ : L2.St} {H : Hp} {ta tb tc : TE} {n : Int} {y tq : Addr} {r s : Int} {E : XK} (ha : Ev ta σ H (.int n)) (hb : Ev tb σ H (.ref y)) (hc : Ev tc σ H (.ref tq)) (sn : S40 n) (R : Rep C H (.ref y) r s) (hq : H tq = some (.tup [.int r, .int s])) :
    EvT (tNot (tB (tCall (spUnder C) [] E (tCons ta (tCons tb (tCons tc tNil)))))) σ H false :=
  et_is (et_not (et_B (ev_call (z := .bl true) (ea_cons ha (ea_cons hb (ea_cons hc ea_nil))) fun H1 e Q k E => ⟨n, y, tq, r, s, rfl, sn, R.mono e, e _ _ hq, k⟩))) rfl
theorem ev_unT {C : Addr} {σ : L2.St} {H : Hp} {ta tb tc td : TE} {n : Int} {y : Addr} {r s : Int} {E : XK} (ha : Ev ta σ H (.int n)) (hb : Ev tb σ H (.ref y)) (hc : Ev tc σ H (.int r)) (hd : Ev td σ H (.int s)) (sn : S40 n) (R : Rep C H (.ref y) r s) :
    EvT (tNot (tB (tCall (spUnder C) [] E (tCons ta (tCons tb (tCons (tTup (tCons tc (tCons td tNil))) tNil)))))) σ H false := by
  refine et_is (et_not (et_B (b := true) ?_)) rfl
  exact fun H1 e1 Q k => ha H1 e1 _ fun H2 e2 => hb H2 (e1.trans e2) _ fun H3 e3 => hc H3 ((e1.trans e2).trans e3) _ fun H4 e4 => hd H4 (((e1.trans e2).trans e3).trans e4) _ fun H5 e5 =>
    ⟨(by show 2 ≤ sizeLine; decide), fun t ht => by
      have e25 := ((e2.trans e3).trans e4).trans e5
      have e := (e1.trans e25).trans (Ex.new (o := .tup [.int r, .int s]) ht)
      exact ⟨n, y, t, r, s, rfl, sn, R.mono e, upd_same, fun H6 e6 => k H6 ((e25.trans (Ex.new ht)).trans e6)⟩⟩
theorem ev_isTr {C : Addr} {σ : L2.St} {H : Hp} {ta tb tc : TE} {z : Addr} {N D : Int} {E : XK} (R : RepS C H z N D) (sN : Sz N) (sD : Sz D) (ha : Ev ta σ H (.ref z)) (hb : Ev tb σ H (.int N)) (hc : Ev tc σ H (.int D)) : Ev (tCall (spIsShare C) [] E (tCons ta (tCons tb (tCons tc tNil)))) σ H (.bl true) :=
  ev_call (ea_cons ha (ea_cons hb (ea_cons hc ea_nil))) fun H1 e Q k E => (R.mono e).is sN sD k
theorem ok_law (T : Txt P K mg) : FnOk P w K mg base CX0 8 T.f_law T.d_law ["_law_script"] (spLaw K) := by
  refine T.F_law.ok sc_law (fun vs H Q E h => ?_) (fun cdv A outer s H vs Q E hr h => ?_)
  · obtain ⟨a, ns, rfl, _⟩ := h
    rfl
  · obtain ⟨a, ns, rfl, hS, hl, k⟩ := h
    refine ⟨_, (pss_cons (ps_set (i := 1) sc_law.nd rfl (.inl rfl) (pe_call (ok__law_source T) (hr.mono (by decide)) rfl T.g__law_source T.F__law_source.kp T.b__law_source .nil pass0 (pa_cons (pv 0) pa_nil)))
      (pss_cons (ps_set (i := 2) sc_law.nd rfl (.inl rfl) (pe_call (ok__law_fraction T) (hr.mono (by decide)) rfl T.g__law_fraction T.F__law_fraction.kp T.b__law_fraction .nil pass0 (pa_cons (pv 1) (pa_cons pe_int pa_nil))))
      (pss_cons (ps_set (i := 3) sc_law.nd rfl (.inl rfl) (pe_call (ok__law_first T) (hr.mono (by decide)) rfl T.g__law_first T.F__law_first.kp T.b__law_first .nil pass0 (pa_cons (pv 1) (pa_cons (pv 2) pa_nil))))
      (pss_cons (ps_set (i := 4) sc_law.nd rfl (.inl rfl) (pe_call (ok__law_number T) (hr.mono (by decide)) rfl T.g__law_number T.F__law_number.kp T.b__law_number .nil pass0 (pa_cons (pv 1) (pa_cons pe_int pa_nil))))
      (pss_cons (ps_set (i := 5) sc_law.nd rfl (.inl rfl) (pe_make (mkS T) (ok_Share_init T) (hr.mono (by decide)) rfl T.g_Share T.b_Share_init .nil passN (pa_cons (pe_ix ix_tup (pv 3) pe_int (fun _ _ => rfl)) (pa_cons (pe_ix ix_tup (pv 3) pe_int (fun _ _ => rfl)) pa_nil))))
      (pss_cons (ps_set (i := 6) sc_law.nd rfl (.inl rfl) (pe_make (mkS T) (ok_Share_init T) (hr.mono (by decide)) rfl T.g_Share T.b_Share_init .nil passN (pa_cons (pe_ix ix_tup (pv 2) pe_int (fun _ _ => rfl)) (pa_cons (pe_ix ix_tup (pv 2) pe_int (fun _ _ => rfl)) pa_nil))))
      (pss_cons (ps_set (i := 7) sc_law.nd rfl (.inl rfl) (pe_make (mkS T) (ok_Share_init T) (hr.mono (by decide)) rfl T.g_Share T.b_Share_init .nil passN (pa_cons pe_int (pa_cons (pe_ix ix_tup (pv 2) pe_int (fun _ _ => rfl)) pa_nil))))
      (pss_cons (ps_if (PW.pt (pw_or (pt_not (pt_val (pe_call (ok__law_quotients T) (hr.mono (by decide)) rfl T.g__law_quotients T.F__law_quotients.kp T.b__law_quotients .nil pass0 (pa_cons (pv 5) (pa_cons (pv 6) (pa_cons (pv 3) (pa_cons (pv 2) pa_nil))))))) (pw_or1 (pt_not (pt_val (pe_call (ok__law_quotients T) (hr.mono (by decide)) rfl T.g__law_quotients T.F__law_quotients.kp T.b__law_quotients .nil pass0 (pa_cons (pv 6) (pa_cons (pv 5) (pa_cons (pv 2) (pa_cons (pv 3) pa_nil)))))))))) (pss_one (ps_ret pe_bl)) pss_nil)
      (pss_cons (ps_if (PW.pt (pw_or (pt_not (pt_val (pe_call (ok__law_quotients T) (hr.mono (by decide)) rfl T.g__law_quotients T.F__law_quotients.kp T.b__law_quotients .nil pass0 (pa_cons (pv 5) (pa_cons (pv 4) (pa_cons (pv 3) (pa_cons (pe_tup (pa_cons (pv 4) (pa_cons pe_int pa_nil))) pa_nil))))))) (pw_or1 (pt_not (pt_val (pe_call (ok__law_quotients T) (hr.mono (by decide)) rfl T.g__law_quotients T.F__law_quotients.kp T.b__law_quotients .nil pass0 (pa_cons (pv 5) (pa_cons (pv 5) (pa_cons (pv 3) (pa_cons (pv 3) pa_nil)))))))))) (pss_one (ps_ret pe_bl)) pss_nil)
      (pss_cons (ps_if (PW.pt (pw_or (pt_not (pt_val (pe_call (ok__law_under T) (hr.mono (by decide)) rfl T.g__law_under T.F__law_under.kp T.b__law_under .nil pass0 (pa_cons (pv 4) (pa_cons (pv 5) (pa_cons (pv 3) pa_nil)))))) (pw_or1 (pt_not (pt_val (pe_call (ok__law_under T) (hr.mono (by decide)) rfl T.g__law_under T.F__law_under.kp T.b__law_under .nil pass0 (pa_cons (pv 4) (pa_cons (pv 6) (pa_cons (pv 2) pa_nil))))))))) (pss_one (ps_ret pe_bl)) pss_nil)
      (pss_cons (ps_if (PW.pt (pw_or (pt_not (pt_val (pe_call (ok__law_quotients T) (hr.mono (by decide)) rfl T.g__law_quotients T.F__law_quotients.kp T.b__law_quotients .nil pass0 (pa_cons (pv 5) (pa_cons (pv 7) (pa_cons (pv 3) (pa_cons (pe_tup (pa_cons pe_int (pa_cons pe_int pa_nil))) pa_nil))))))) (pw_or1 (pt_not (pt_val (pe_call (ok__law_quotients T) (hr.mono (by decide)) rfl T.g__law_quotients T.F__law_quotients.kp T.b__law_quotients .nil pass0 (pa_cons (pv 6) (pa_cons pe_int (pa_cons (pv 2) (pa_cons (pe_tup (pa_cons pe_int (pa_cons pe_int pa_nil))) pa_nil)))))))))) (pss_one (ps_ret pe_bl)) pss_nil)
      (pss_cons (ps_if (PW.pt (pw_or (pt_not (pt_val (pe_call (ok__law_under T) (hr.mono (by decide)) rfl T.g__law_under T.F__law_under.kp T.b__law_under .nil pass0 (pa_cons (pv 4) (pa_cons (pv 7) (pa_cons (pe_tup (pa_cons pe_int (pa_cons pe_int pa_nil))) pa_nil)))))) (pw_or1 (pt_not (pt_val (pe_call (ok__law_is_share T) (hr.mono (by decide)) rfl T.g__law_is_share T.F__law_is_share.kp T.b__law_is_share .nil pass0 (pa_cons (pv 7) (pa_cons pe_int (pa_cons pe_int pa_nil))))))))) (pss_one (ps_ret pe_bl)) pss_nil)
      (pss_one (ps_ret (pe_and (pe_call (ok__law_is_share T) (hr.mono (by decide)) rfl T.g__law_is_share T.F__law_is_share.kp T.b__law_is_share .nil pass0 (pa_cons (pv 5) (pa_cons (pe_ix ix_tup (pv 3) pe_int (fun _ _ => rfl)) (pa_cons (pe_ix ix_tup (pv 3) pe_int (fun _ _ => rfl)) pa_nil)))) (pe_one (pe_call (ok__law_is_share T) (hr.mono (by decide)) rfl T.g__law_is_share T.F__law_is_share.kp T.b__law_is_share .nil pass0 (pa_cons (pv 6) (pa_cons (pe_ix ix_tup (pv 2) pe_int (fun _ _ => rfl)) (pa_cons (pe_ix ix_tup (pv 2) pe_int (fun _ _ => rfl)) pa_nil)))))))))))))))))))), ?_⟩
    refine ⟨_, rfl, a, ns, rfl, hS, fun H1 u S1 nu s1 => ?_⟩
    refine ⟨.ref u, rfl, u, 2, rfl, S1, by decide, by decide, fun H2 tq r d hd0 br bd htq S2 B2 => ?_⟩
    refine ⟨.ref u, rfl, _, rfl, u, tq, r, d, rfl, S2, htq, hd0, br, bd, fun H3 tp p q hq0 sp sq htp S3 B3 => ?_⟩
    refine ⟨.ref u, rfl, u, 2, rfl, S3, by decide, by decide, fun H4 n bn S4 B4 => ?_⟩
    have htq4 := (B3.trans B4).tup S2 htq
    have htp4 := B4.tup S3 htp
    have sr : S40 r := s40_21 br
    have sd : S40 d := s40_21 bd
    have sn : S40 n := s40_21 bn
    refine ⟨_, rfl, tp, _, 0, _, rfl, rfl, SqT.of htp4, atI_nat (j := 0) rfl, _, rfl, tp, _, 1, _, rfl, rfl, SqT.of htp4, atI_nat (j := 1) rfl, fun x dx nx ndx nex => ⟨x, dx, _, _, rfl, upd_same, sp.sz, sq.sz, fun _ H5 k5 h5 => ⟨rfl, ?_⟩, fun e => absurd e hq0⟩⟩
    have e5 := mk_ex nx ndx k5
    have htq5 := e5 _ _ htq4
    refine ⟨_, rfl, tq, _, 0, _, rfl, rfl, SqT.of htq5, atI_nat (j := 0) rfl, _, rfl, tq, _, 1, _, rfl, rfl, SqT.of htq5, atI_nat (j := 1) rfl, fun y dy ny ndy ney => ⟨y, dy, _, _, rfl, upd_same, sr.sz, sd.sz, fun _ H6 k6 h6 => ⟨rfl, ?_⟩, fun e => absurd e hd0⟩⟩
    have e6 := mk_ex ny ndy k6
    have htq6 := e6 _ _ htq5
    refine ⟨_, rfl, tq, _, 1, _, rfl, rfl, SqT.of htq6, atI_nat (j := 1) rfl, fun z dz nz ndz nez => ⟨z, dz, _, _, rfl, upd_same, s40_0.sz, sd.sz, fun _ H7 k7 h7 => ⟨rfl, ?_⟩, fun e => absurd e hd0⟩⟩
    have e7 := mk_ex nz ndz k7
    have e67 := e6.trans e7
    have htp7 := e67 _ _ (e5 _ _ htp4)
    have htq7 := e67 _ _ htq5
    have w1 : RepS T.C_Share H7 x p q := ⟨hq0, (show ShrAt T.C_Share H5 x (lowT p q) (lowB p q) from ⟨dx, h5⟩).mono e67⟩
    have w2 : RepS T.C_Share H7 y r d := ⟨hd0, (show ShrAt T.C_Share H6 y (lowT r d) (lowB r d) from ⟨dy, h6⟩).mono e7⟩
    have w3 : RepS T.C_Share H7 z 0 1 := ⟨by decide, dz, by
      rw [(low_zero hd0).1, (low_zero hd0).2] at h7
      exact h7⟩
    have R1 := w1.rep sp sq
    have R2 := w2.rep sr sd
    have R3 := w3.rep s40_0 s40_1
    have Rn : ∀ H, Rep T.C_Share H (.int n) n 1 := fun H => rep_int sn
    have Rz : ∀ H, Rep T.C_Share H (.int 0) 0 1 := fun H => rep_int s40_0
    refine q_when (b := false) (et_or (a := false) (b := false) (ev_qs (ev_var rfl) (ev_var rfl) (ev_var rfl) (ev_var rfl) R1 R2 htp7 htq7) (fun _ => ev_qs (ev_var rfl) (ev_var rfl) (ev_var rfl) (ev_var rfl) R2 R1 htq7 htp7)) (fun z => by cases z) (fun _ H8 e8 => ?_)
    replace R1 := R1.mono e8; replace R2 := R2.mono e8; replace R3 := R3.mono e8
    have htp8 := e8 _ _ htp7
    have htq8 := e8 _ _ htq7
    refine q_when (b := false) (et_or (a := false) (b := false) (ev_qsT (ev_var rfl) (ev_var rfl) (ev_var rfl) (ev_var rfl) ev_c R1 (Rn _) htp8) (fun _ => ev_qs (ev_var rfl) (ev_var rfl) (ev_var rfl) (ev_var rfl) R1 R1 htp8 htp8)) (fun z => by cases z) (fun _ H9 e9 => ?_)
    replace R1 := R1.mono e9; replace R2 := R2.mono e9; replace R3 := R3.mono e9
    have htp9 := e9 _ _ htp8
    have htq9 := e9 _ _ htq8
    refine q_when (b := false) (et_or (a := false) (b := false) (ev_un1 (ev_var rfl) (ev_var rfl) (ev_var rfl) sn R1 htp9) (fun _ => ev_un1 (ev_var rfl) (ev_var rfl) (ev_var rfl) sn R2 htq9)) (fun z => by cases z) (fun _ H10 e10 => ?_)
    replace R1 := R1.mono e10; replace R2 := R2.mono e10; replace R3 := R3.mono e10
    have htp10 := e10 _ _ htp9
    have htq10 := e10 _ _ htq9
    refine q_when (b := false) (et_or (a := false) (b := false) (ev_qsT (ev_var rfl) (ev_var rfl) (ev_var rfl) ev_c ev_c R1 R3 htp10) (fun _ => ev_qsT (ev_var rfl) ev_c (ev_var rfl) ev_c ev_c R2 (Rz _) htq10)) (fun z => by cases z) (fun _ H11 e11 => ?_)
    replace R1 := R1.mono e11; replace R2 := R2.mono e11; replace R3 := R3.mono e11
    have e711 := ((e8.trans e9).trans e10).trans e11
    refine q_when (b := false) (et_or (a := false) (b := false) (ev_unT (ev_var rfl) (ev_var rfl) ev_c ev_c sn R3) (fun _ => et_is (et_not (et_B (ev_isTr (w3.mono e711) s40_0.sz s40_1.sz (ev_var rfl) ev_c ev_c))) rfl)) (fun z => by cases z) (fun _ H12 e12 => ?_)
    have e712 := e711.trans e12
    have htp12 := e712 _ _ htp7
    have htq12 := e712 _ _ htq7
    exact s_ret (v := .bl true) (ev_is (ev_andV (a := true) (b := true) (ev_isTr (w1.mono e712) sp.sz sq.sz (ev_var rfl) (ev_p0 (ev_var rfl) htp12) (ev_p1 (ev_var rfl) htp12)) (fun _ => ev_isTr (w2.mono e712) sr.sz sd.sz (ev_var rfl) (ev_p0 (ev_var rfl) htq12) (ev_p1 (ev_var rfl) htq12))) rfl) (fun H13 e13 => k H13)
end

end
theorem all_mk {l : PySem.W.OpenLaw} {w : World} {K : PySem.W.Frag} {h : Heap} {mg : Str → Option Value} {fa : Addr} (X : K.In h) (G : h.Ns mainGlobals mg) (hfa : mg "law" = some (.ref fa))
    {C_Share f0 f1 f2 f3 f4 dt4 f5 f6 f7 f8 f9 f10 f11 f12 f13 f14 f15 f16 f17 f18 f19 f20 f21 C_HornError C_BadShare i_BadShare cda1 cc1 C_ZeroBelow i_ZeroBelow cda2 cc2 : Addr} {od0 an0 od1 an1 od2 an2 od3 an3 od4 an4 dtd4 od5 an5 od6 an6 od7 an7 od8 an8 od9 an9 od10 an10 od11 an11 od12 an12 od13 an13 od14 an14 od15 an15 od16 an16 od17 an17 od18 an18 od19 an19 od20 an20 od21 an21 : Option Addr} {sl0 sl1 sl2 sl3 sl4 dts4 sl5 sl6 sl7 sl8 sl9 sl10 sl11 sl12 sl13 sl14 sl15 sl16 sl17 sl18 sl19 sl20 sl21 : Array (Option Value)} {oc0 kV0 dc0 pm0 cd0 ct0 oc1 kV1 dc1 pm1 cd1 ct1 oc2 kV2 dc2 pm2 cd2 ct2 oc3 kV3 dc3 pm3 cd3 ct3 oc4 kV4 dc4 pm4 cd4 ct4 dtc4 oc5 kV5 dc5 pm5 cd5 ct5 oc6 kV6 dc6 pm6 cd6 ct6 oc7 kV7 dc7 pm7 cd7 ct7 oc8 kV8 dc8 pm8 cd8 ct8 oc9 kV9 dc9 pm9 cd9 ct9 oc10 kV10 dc10 pm10 cd10 ct10 oc11 kV11 dc11 pm11 cd11 ct11 oc12 kV12 dc12 pm12 cd12 ct12 oc13 kV13 dc13 pm13 cd13 ct13 oc14 kV14 dc14 pm14 cd14 ct14 oc15 kV15 dc15 pm15 cd15 ct15 oc16 kV16 dc16 pm16 cd16 ct16 oc17 kV17 dc17 pm17 cd17 ct17 oc18 kV18 dc18 pm18 cd18 ct18 oc19 kV19 dc19 pm19 cd19 ct19 oc20 kV20 dc20 pm20 cd20 ct20 oc21 kV21 dc21 pm21 cd21 ct21 : Value} {tk0 dtk4_0 : Tok} {dta4 : Array Value} {dtn4 : Nat}
    {n_1 q_1 : Str} {N_1 : Addr} {bs_1 bm_1 : List Value} {sn_1 : List Str} {sub_1 : List Value} {ab_1 : Bool} {col_1 : Option Bool} {dd_1 : Option Addr} {w0_1 w1_1 w2_1 w3_1 w5_1 : Option Value} {oce_1 dce_1 pme_1 cte_1 ccl_1 cl_1 : Value} {ode_1 ane_1 cdd_1 cld_1 : Option Addr} {sle_1 ccs_1 csl_1 : Array (Option Value)} {vs_1 : Array Value} {file_1 : Str} {tf_1 : Tok}
    {n_2 q_2 : Str} {N_2 : Addr} {bs_2 bm_2 : List Value} {sn_2 : List Str} {sub_2 : List Value} {ab_2 : Bool} {col_2 : Option Bool} {dd_2 : Option Addr} {w0_2 w1_2 w2_2 w3_2 w5_2 : Option Value} {oce_2 dce_2 pme_2 cte_2 ccl_2 cl_2 : Value} {ode_2 ane_2 cdd_2 cld_2 : Option Addr} {sle_2 ccs_2 csl_2 : Array (Option Value)} {vs_2 : Array Value} {file_2 : Str} {tf_2 : Tok}
    (cg0 : PySem.W.nsIn K mainGlobals "Share" = some (some (.ref C_Share)))
    (cpg0 : PySem.W.plainGet K C_Share Str.empty = true)
    (chd0 : PySem.W.hasDictIn K C_Share = true)
    (cpo0 : PySem.W.plainOver K C_Share = true)
    (csa0 : PySem.W.findIn K (.ref C_Share) "__setattr__" = some (some (.builtin "object.__setattr__")))
    (cmi0 : PySem.W.makesIn K C_Share = true)
    (ckc0 : PySem.W.keepIn K (.ref C_Share) = true)
    (cha0 : PySem.W.findIn K (.ref C_Share) "__class__" = some (some (.builtin "object.__class__")))
    (cmo0 : PySem.W.mroIn K C_Share (.type "object") = some true)
    (cme0 : PySem.W.kitOne K (.ref C_Share) (.ref C_Share) = some true)
    (cna0_0 : PySem.W.findIn K (.ref C_Share) "top" = some none)
    (cna0_1 : PySem.W.findIn K (.ref C_Share) "bottom" = some none)
    (om_Share : mro2 K C_Share = true)
    (oa_Share : PySem.W.kitCls K (.ref C_Share) (.type "int") = some false)
    (ob_Share : PySem.W.kitCls K (.type "int") (.ref C_Share) = some false)
    (on_Share_floordiv : PySem.W.findIn K (.ref C_Share) "__ifloordiv__" = some none)
    (ckt0 : PySem.W.kitOne K (.type "int") (.ref C_Share) = some false)
    (cim0 : PySem.W.nsIn K mainGlobals "gcd" = some (some (.builtin "math.gcd")))
    (a0 : PySem.W.nsIn K mainGlobals "_is_exact" = some (some (.ref f0)))
    (l0 : K.lookup f0 = some ⟨oc0, od0, .func (PySem.W.fnOf "_is_exact" "_is_exact" (defArgs s__is_exact) (defBody s__is_exact) (defScope s__is_exact) .none kV0 dc0 pm0 an0 cd0 ct0), sl0⟩)
    (c0 : PySem.W.codeIn K cd0 "_is_exact" = true)
    (k0 : PySem.W.keepIn K (.ref f0) = true)
    (a1 : PySem.W.nsIn K mainGlobals "_parts" = some (some (.ref f1)))
    (l1 : K.lookup f1 = some ⟨oc1, od1, .func (PySem.W.fnOf "_parts" "_parts" (defArgs s__parts) (defBody s__parts) (defScope s__parts) .none kV1 dc1 pm1 an1 cd1 ct1), sl1⟩)
    (c1 : PySem.W.codeIn K cd1 "_parts" = true)
    (k1 : PySem.W.keepIn K (.ref f1) = true)
    (a2 : PySem.W.nsIn K mainGlobals "_quotient" = some (some (.ref f2)))
    (l2 : K.lookup f2 = some ⟨oc2, od2, .func (PySem.W.fnOf "_quotient" "_quotient" (defArgs s__quotient) (defBody s__quotient) (defScope s__quotient) .none kV2 dc2 pm2 an2 cd2 ct2), sl2⟩)
    (c2 : PySem.W.codeIn K cd2 "_quotient" = true)
    (k2 : PySem.W.keepIn K (.ref f2) = true)
    (a3 : PySem.W.nsIn K mainGlobals "_floor" = some (some (.ref f3)))
    (l3 : K.lookup f3 = some ⟨oc3, od3, .func (PySem.W.fnOf "_floor" "_floor" (defArgs s__floor) (defBody s__floor) (defScope s__floor) .none kV3 dc3 pm3 an3 cd3 ct3), sl3⟩)
    (c3 : PySem.W.codeIn K cd3 "_floor" = true)
    (k3 : PySem.W.keepIn K (.ref f3) = true)
    (a4 : PySem.W.findIn K (.ref C_Share) "__init__" = some (some (.ref f4)))
    (l4 : K.lookup f4 = some ⟨oc4, od4, .func (PySem.W.fnOf "__init__" "Share.__init__" (defArgs s_Share_init) (defBody s_Share_init) (defScope s_Share_init) (.ref dt4) kV4 dc4 pm4 an4 cd4 ct4), sl4⟩)
    (dl4 : K.lookup dt4 = some ⟨dtc4, dtd4, .seq dta4 dtn4, dts4⟩)
    (de4 : dta4 = [Value.int 1 dtk4_0].toArray)
    (if4 : PySem.W.isFn K (.ref f4) = true)
    (c4 : PySem.W.codeIn K cd4 "Share.__init__" = true)
    (k4 : PySem.W.keepIn K (.ref f4) = true)
    (a5 : PySem.W.findIn K (.ref C_Share) "__floordiv__" = some (some (.ref f5)))
    (l5 : K.lookup f5 = some ⟨oc5, od5, .func (PySem.W.fnOf "__floordiv__" "Share.__floordiv__" (defArgs s_Share_floordiv) (defBody s_Share_floordiv) (defScope s_Share_floordiv) .none kV5 dc5 pm5 an5 cd5 ct5), sl5⟩)
    (if5 : PySem.W.isFn K (.ref f5) = true)
    (c5 : PySem.W.codeIn K cd5 "Share.__floordiv__" = true)
    (k5 : PySem.W.keepIn K (.ref f5) = true)
    (a6 : PySem.W.findIn K (.ref C_Share) "__rfloordiv__" = some (some (.ref f6)))
    (l6 : K.lookup f6 = some ⟨oc6, od6, .func (PySem.W.fnOf "__rfloordiv__" "Share.__rfloordiv__" (defArgs s_Share_rfloordiv) (defBody s_Share_rfloordiv) (defScope s_Share_rfloordiv) .none kV6 dc6 pm6 an6 cd6 ct6), sl6⟩)
    (if6 : PySem.W.isFn K (.ref f6) = true)
    (c6 : PySem.W.codeIn K cd6 "Share.__rfloordiv__" = true)
    (k6 : PySem.W.keepIn K (.ref f6) = true)
    (a7 : PySem.W.findIn K (.ref C_Share) "over" = some (some (.ref f7)))
    (l7 : K.lookup f7 = some ⟨oc7, od7, .func (PySem.W.fnOf "over" "Share.over" (defArgs s_Share_over) (defBody s_Share_over) (defScope s_Share_over) .none kV7 dc7 pm7 an7 cd7 ct7), sl7⟩)
    (if7 : PySem.W.isFn K (.ref f7) = true)
    (c7 : PySem.W.codeIn K cd7 "Share.over" = true)
    (k7 : PySem.W.keepIn K (.ref f7) = true)
    (a8 : PySem.W.nsIn K mainGlobals "_law_source" = some (some (.ref f8)))
    (l8 : K.lookup f8 = some ⟨oc8, od8, .func (PySem.W.fnOf "_law_source" "_law_source" (defArgs s__law_source) (defBody s__law_source) (defScope s__law_source) .none kV8 dc8 pm8 an8 cd8 ct8), sl8⟩)
    (c8 : PySem.W.codeIn K cd8 "_law_source" = true)
    (k8 : PySem.W.keepIn K (.ref f8) = true)
    (a9 : PySem.W.nsIn K mainGlobals "_law_take" = some (some (.ref f9)))
    (l9 : K.lookup f9 = some ⟨oc9, od9, .func (PySem.W.fnOf "_law_take" "_law_take" (defArgs s__law_take) (defBody s__law_take) (defScope s__law_take) .none kV9 dc9 pm9 an9 cd9 ct9), sl9⟩)
    (c9 : PySem.W.codeIn K cd9 "_law_take" = true)
    (k9 : PySem.W.keepIn K (.ref f9) = true)
    (a10 : PySem.W.nsIn K mainGlobals "_law_same" = some (some (.ref f10)))
    (l10 : K.lookup f10 = some ⟨oc10, od10, .func (PySem.W.fnOf "_law_same" "_law_same" (defArgs s__law_same) (defBody s__law_same) (defScope s__law_same) .none kV10 dc10 pm10 an10 cd10 ct10), sl10⟩)
    (c10 : PySem.W.codeIn K cd10 "_law_same" = true)
    (k10 : PySem.W.keepIn K (.ref f10) = true)
    (a11 : PySem.W.nsIn K mainGlobals "_law_gcd" = some (some (.ref f11)))
    (l11 : K.lookup f11 = some ⟨oc11, od11, .func (PySem.W.fnOf "_law_gcd" "_law_gcd" (defArgs s__law_gcd) (defBody s__law_gcd) (defScope s__law_gcd) .none kV11 dc11 pm11 an11 cd11 ct11), sl11⟩)
    (c11 : PySem.W.codeIn K cd11 "_law_gcd" = true)
    (k11 : PySem.W.keepIn K (.ref f11) = true)
    (a12 : PySem.W.nsIn K mainGlobals "_law_is_share" = some (some (.ref f12)))
    (l12 : K.lookup f12 = some ⟨oc12, od12, .func (PySem.W.fnOf "_law_is_share" "_law_is_share" (defArgs s__law_is_share) (defBody s__law_is_share) (defScope s__law_is_share) .none kV12 dc12 pm12 an12 cd12 ct12), sl12⟩)
    (c12 : PySem.W.codeIn K cd12 "_law_is_share" = true)
    (k12 : PySem.W.keepIn K (.ref f12) = true)
    (a13 : PySem.W.nsIn K mainGlobals "_law_number" = some (some (.ref f13)))
    (l13 : K.lookup f13 = some ⟨oc13, od13, .func (PySem.W.fnOf "_law_number" "_law_number" (defArgs s__law_number) (defBody s__law_number) (defScope s__law_number) .none kV13 dc13 pm13 an13 cd13 ct13), sl13⟩)
    (c13 : PySem.W.codeIn K cd13 "_law_number" = true)
    (k13 : PySem.W.keepIn K (.ref f13) = true)
    (a14 : PySem.W.nsIn K mainGlobals "_law_fraction" = some (some (.ref f14)))
    (l14 : K.lookup f14 = some ⟨oc14, od14, .func (PySem.W.fnOf "_law_fraction" "_law_fraction" (defArgs s__law_fraction) (defBody s__law_fraction) (defScope s__law_fraction) .none kV14 dc14 pm14 an14 cd14 ct14), sl14⟩)
    (c14 : PySem.W.codeIn K cd14 "_law_fraction" = true)
    (k14 : PySem.W.keepIn K (.ref f14) = true)
    (a15 : PySem.W.nsIn K mainGlobals "_law_first" = some (some (.ref f15)))
    (l15 : K.lookup f15 = some ⟨oc15, od15, .func (PySem.W.fnOf "_law_first" "_law_first" (defArgs s__law_first) (defBody s__law_first) (defScope s__law_first) .none kV15 dc15 pm15 an15 cd15 ct15), sl15⟩)
    (c15 : PySem.W.codeIn K cd15 "_law_first" = true)
    (k15 : PySem.W.keepIn K (.ref f15) = true)
    (a16 : PySem.W.nsIn K mainGlobals "_law_right_error" = some (some (.ref f16)))
    (l16 : K.lookup f16 = some ⟨oc16, od16, .func (PySem.W.fnOf "_law_right_error" "_law_right_error" (defArgs s__law_right_error) (defBody s__law_right_error) (defScope s__law_right_error) .none kV16 dc16 pm16 an16 cd16 ct16), sl16⟩)
    (c16 : PySem.W.codeIn K cd16 "_law_right_error" = true)
    (k16 : PySem.W.keepIn K (.ref f16) = true)
    (a17 : PySem.W.nsIn K mainGlobals "_law_no_floor" = some (some (.ref f17)))
    (l17 : K.lookup f17 = some ⟨oc17, od17, .func (PySem.W.fnOf "_law_no_floor" "_law_no_floor" (defArgs s__law_no_floor) (defBody s__law_no_floor) (defScope s__law_no_floor) .none kV17 dc17 pm17 an17 cd17 ct17), sl17⟩)
    (c17 : PySem.W.codeIn K cd17 "_law_no_floor" = true)
    (k17 : PySem.W.keepIn K (.ref f17) = true)
    (a18 : PySem.W.nsIn K mainGlobals "_law_no_over" = some (some (.ref f18)))
    (l18 : K.lookup f18 = some ⟨oc18, od18, .func (PySem.W.fnOf "_law_no_over" "_law_no_over" (defArgs s__law_no_over) (defBody s__law_no_over) (defScope s__law_no_over) .none kV18 dc18 pm18 an18 cd18 ct18), sl18⟩)
    (c18 : PySem.W.codeIn K cd18 "_law_no_over" = true)
    (k18 : PySem.W.keepIn K (.ref f18) = true)
    (a19 : PySem.W.nsIn K mainGlobals "_law_quotients" = some (some (.ref f19)))
    (l19 : K.lookup f19 = some ⟨oc19, od19, .func (PySem.W.fnOf "_law_quotients" "_law_quotients" (defArgs s__law_quotients) (defBody s__law_quotients) (defScope s__law_quotients) .none kV19 dc19 pm19 an19 cd19 ct19), sl19⟩)
    (c19 : PySem.W.codeIn K cd19 "_law_quotients" = true)
    (k19 : PySem.W.keepIn K (.ref f19) = true)
    (a20 : PySem.W.nsIn K mainGlobals "_law_under" = some (some (.ref f20)))
    (l20 : K.lookup f20 = some ⟨oc20, od20, .func (PySem.W.fnOf "_law_under" "_law_under" (defArgs s__law_under) (defBody s__law_under) (defScope s__law_under) .none kV20 dc20 pm20 an20 cd20 ct20), sl20⟩)
    (c20 : PySem.W.codeIn K cd20 "_law_under" = true)
    (k20 : PySem.W.keepIn K (.ref f20) = true)
    (a21 : PySem.W.nsIn K mainGlobals "law" = some (some (.ref f21)))
    (l21 : K.lookup f21 = some ⟨oc21, od21, .func (PySem.W.fnOf "law" "law" (defArgs s_law) (defBody s_law) (defScope s_law) .none kV21 dc21 pm21 an21 cd21 ct21), sl21⟩)
    (c21 : PySem.W.codeIn K cd21 "law" = true)
    (k21 : PySem.W.keepIn K (.ref f21) = true)
    (v0 : PySem.W.nsIn K mainGlobals "MOST_DIGITS" = some (some (.int 60 tk0)))
    (eg0 : PySem.W.nsIn K mainGlobals "HornError" = some (some (.ref C_HornError)))
    (eg1 : PySem.W.nsIn K mainGlobals "BadShare" = some (some (.ref C_BadShare)))
    (el1 : K.lookup C_BadShare = some (excClassObj n_1 q_1 C_BadShare N_1 bs_1 bm_1 true sn_1 sub_1 ab_1 col_1 dd_1 w0_1 w1_1 w2_1 w3_1 w5_1 "ValueError.__new__"))
    (er1 : PySem.HandSPX.refsVE bm_1 = true)
    (esa1 : PySem.W.findIn K (.ref C_BadShare) "__setattr__" = some (some (.builtin "object.__setattr__")))
    (ega1 : PySem.W.findIn K (.ref C_BadShare) "__getattribute__" = some (some (.builtin "BaseException.__getattribute__")))
    (egg1 : PySem.W.findIn K (.ref C_BadShare) "__getattr__" = some none)
    (ein1 : PySem.W.findIn K (.ref C_BadShare) "__init__" = some (some (.ref i_BadShare)))
    (ecl1 : PySem.W.findIn K (.ref C_BadShare) "__class__" = some (some (.builtin "object.__class__")))
    (efn1 : PySem.W.findIn K (.ref C_BadShare) "text" = some none)
    (eti1 : PySem.W.typeIn K (.ref i_BadShare) = some (.type "function"))
    (ekc1 : PySem.W.keepIn K (.ref C_BadShare) = true)
    (ebe1 : PySem.W.subIn K (.ref C_BadShare) (.type "BaseException") = some true)
    (eve1 : PySem.W.subIn K (.ref C_BadShare) (.type "ValueError") = some true)
    (ety1 : PySem.W.typeIn K (.ref C_BadShare) = some (.type "type"))
    (ehd1 : PySem.W.hasDictIn K C_BadShare = true)
    (eic1 : PySem.W.isClsIn K C_BadShare = true)
    (ess1 : PySem.W.subIn K (.ref C_BadShare) (.ref C_BadShare) = some true)
    (eup1 : PySem.W.ks_superIn K C_BadShare C_BadShare "__init__" = some (some (.builtin "ValueError.__init__")))
    (emr1 : PySem.W.mroIn K C_BadShare (.ref C_BadShare) = some true)
    (emo1 : PySem.W.mroIn K C_BadShare (.type "object") = some true)
    (elf1 : K.lookup i_BadShare = some ⟨oce_1, ode_1, .func (PySem.W.ksFn "__init__" ("BadShare" ++ ".__init__") ea_BadShare eb_BadShare (scope1 "text") .none .none dce_1 pme_1 ane_1 (.ref cda1) cte_1 cc1), sle_1⟩)
    (ecd1 : PySem.W.codeIn K (.ref cda1) ("BadShare" ++ ".__init__") = true)
    (elc1 : K.lookup cda1 = some ⟨ccl_1, cdd_1, .fields vs_1, ccs_1⟩)
    (evs1 : vs_1[2]? = some (.str file_1 tf_1))
    (efi1 : (l.prog.main.file == file_1) = true)
    (ece1 : K.lookup cc1 = some ⟨cl_1, cld_1, .cell (some (.ref C_BadShare)), csl_1⟩)
    (eg2 : PySem.W.nsIn K mainGlobals "ZeroBelow" = some (some (.ref C_ZeroBelow)))
    (el2 : K.lookup C_ZeroBelow = some (excClassObj n_2 q_2 C_ZeroBelow N_2 bs_2 bm_2 true sn_2 sub_2 ab_2 col_2 dd_2 w0_2 w1_2 w2_2 w3_2 w5_2 "ValueError.__new__"))
    (er2 : PySem.HandSPX.refsVE bm_2 = true)
    (esa2 : PySem.W.findIn K (.ref C_ZeroBelow) "__setattr__" = some (some (.builtin "object.__setattr__")))
    (ega2 : PySem.W.findIn K (.ref C_ZeroBelow) "__getattribute__" = some (some (.builtin "BaseException.__getattribute__")))
    (egg2 : PySem.W.findIn K (.ref C_ZeroBelow) "__getattr__" = some none)
    (ein2 : PySem.W.findIn K (.ref C_ZeroBelow) "__init__" = some (some (.ref i_ZeroBelow)))
    (ecl2 : PySem.W.findIn K (.ref C_ZeroBelow) "__class__" = some (some (.builtin "object.__class__")))
    (eti2 : PySem.W.typeIn K (.ref i_ZeroBelow) = some (.type "function"))
    (ekc2 : PySem.W.keepIn K (.ref C_ZeroBelow) = true)
    (ebe2 : PySem.W.subIn K (.ref C_ZeroBelow) (.type "BaseException") = some true)
    (eve2 : PySem.W.subIn K (.ref C_ZeroBelow) (.type "ValueError") = some true)
    (ety2 : PySem.W.typeIn K (.ref C_ZeroBelow) = some (.type "type"))
    (ehd2 : PySem.W.hasDictIn K C_ZeroBelow = true)
    (eic2 : PySem.W.isClsIn K C_ZeroBelow = true)
    (ess2 : PySem.W.subIn K (.ref C_ZeroBelow) (.ref C_ZeroBelow) = some true)
    (eup2 : PySem.W.ks_superIn K C_ZeroBelow C_ZeroBelow "__init__" = some (some (.builtin "ValueError.__init__")))
    (emr2 : PySem.W.mroIn K C_ZeroBelow (.ref C_ZeroBelow) = some true)
    (emo2 : PySem.W.mroIn K C_ZeroBelow (.type "object") = some true)
    (elf2 : K.lookup i_ZeroBelow = some ⟨oce_2, ode_2, .func (PySem.W.ksFn "__init__" ("ZeroBelow" ++ ".__init__") ea_ZeroBelow eb_ZeroBelow scope0 .none .none dce_2 pme_2 ane_2 (.ref cda2) cte_2 cc2), sle_2⟩)
    (ecd2 : PySem.W.codeIn K (.ref cda2) ("ZeroBelow" ++ ".__init__") = true)
    (elc2 : K.lookup cda2 = some ⟨ccl_2, cdd_2, .fields vs_2, ccs_2⟩)
    (evs2 : vs_2[2]? = some (.str file_2 tf_2))
    (efi2 : (l.prog.main.file == file_2) = true)
    (ece2 : K.lookup cc2 = some ⟨cl_2, cld_2, .cell (some (.ref C_ZeroBelow)), csl_2⟩)
    (kt0 : PySem.W.kitOne K (.ref C_BadShare) (.ref C_BadShare) = some true)
    (kt1 : PySem.W.kitOne K (.ref C_BadShare) (.ref C_HornError) = some true)
    (kt2 : PySem.W.kitOne K (.ref C_BadShare) (.type "ValueError") = some true)
    (kt3 : PySem.W.kitOne K (.ref C_ZeroBelow) (.ref C_BadShare) = some false)
    (kt4 : PySem.W.kitOne K (.ref C_ZeroBelow) (.ref C_HornError) = some true)
    (kt5 : PySem.W.kitOne K (.ref C_ZeroBelow) (.type "ValueError") = some true)
    (z0 : PySem.W.nsIn K mainGlobals "NotImplemented" = some none)
    (z1 : PySem.W.nsIn K mainGlobals "ValueError" = some none)
    (z2 : PySem.W.nsIn K mainGlobals "abs" = some none)
    (z3 : PySem.W.nsIn K mainGlobals "all" = some none)
    (z4 : PySem.W.nsIn K mainGlobals "bool" = some none)
    (z5 : PySem.W.nsIn K mainGlobals "int" = some none)
    (z6 : PySem.W.nsIn K mainGlobals "isinstance" = some none)
    (z7 : PySem.W.nsIn K mainGlobals "len" = some none)
    (z8 : PySem.W.nsIn K mainGlobals "list" = some none)
    (z9 : PySem.W.nsIn K mainGlobals "range" = some none)
    (z10 : PySem.W.nsIn K mainGlobals "staticmethod" = some none)
    (z11 : PySem.W.nsIn K mainGlobals "str" = some none)
    (zsu : PySem.W.nsIn K mainGlobals "super" = some none)
    (z13 : PySem.W.nsIn K mainGlobals "tuple" = some none)
    (zop : PySem.W.nsIn K cStatics "thirdparty.any" = some none)
    (zsp : PySem.W.specialIn K (.builtin "object.__class__") "__get__" = some (some (.builtin "getset_descriptor.__get__")))
    (ztk : PySem.W.takesIn K (.builtin "object.__class__") = some true)
    (znm : (l.prog.main.scope.names.lookup ("super" : Str)).isSome = false)
    : ∃ fd : FuncData, (∀ (s : Shared) (v : Value), BindsTo s fd ⟨[v], []⟩ [("_law_script", v)]) ∧ ∀ base : Heap, K.In base → base.Ns mainGlobals mg → FnOk l.prog w K mg base CX0 8 fa fd ["_law_script"] (spLaw K) := by
  have e := hfa.symm.trans (PySem.W.mg_of X G a21)
  cases e
  have cl0 : Cls K C_Share := ⟨cpg0, chd0, cpo0, csa0⟩
  have F0 := fun_mk (st := s__is_exact) l0 c0 k0
  have b0 := F0.binds (ps := ["value"]) fun _ _ _ _ _ _ us hl => match us, hl with | [_], _ => rfl
  have F1 := fun_mk (st := s__parts) l1 c1 k1
  have b1 := F1.binds (ps := ["value"]) fun _ _ _ _ _ _ us hl => match us, hl with | [_], _ => rfl
  have F2 := fun_mk (st := s__quotient) l2 c2 k2
  have b2 := F2.binds (ps := ["one", "other"]) fun _ _ _ _ _ _ us hl => match us, hl with | [_, _], _ => rfl
  have F3 := fun_mk (st := s__floor) l3 c3 k3
  have b3 := F3.binds (ps := ["share"]) fun _ _ _ _ _ _ us hl => match us, hl with | [_], _ => rfl
  have F4 : FunD K "__init__" "Share.__init__" (defArgs s_Share_init) (defBody s_Share_init) (defScope s_Share_init) [.int 1] [] f4 _ := ⟨⟨_, _, _, _, _, _, _, _, _, _, rfl, l4, c4, .inr ⟨(by simp), _, _, [Value.int 1 dtk4_0], _, rfl, dl4, (by rw [de4]), (.cons ⟨_, rfl⟩ (.nil))⟩, .inl rfl⟩, k4⟩
  have b4 := F4.bindsF (ps := ["self", "top", "bottom"]) (by simp) fun _ _ _ _ _ _ _ us its hu hi => match us, its, hu, hi with | [_, _, _], [_], _, _ => ⟨_, rfl, rfl⟩
  have bd4 := F4.binds1 (ps := ["self", "top", "bottom"]) 2 0 (by simp) rfl fun _ _ _ _ _ _ _ us its hu hi => match us, its, hu, hi with | [_, _], [_], _, _ => ⟨_, rfl, rfl⟩
  have F5 := fun_mk (st := s_Share_floordiv) l5 c5 k5
  have b5 := F5.binds (ps := ["self", "other"]) fun _ _ _ _ _ _ us hl => match us, hl with | [_, _], _ => rfl
  have F6 := fun_mk (st := s_Share_rfloordiv) l6 c6 k6
  have b6 := F6.binds (ps := ["self", "other"]) fun _ _ _ _ _ _ us hl => match us, hl with | [_, _], _ => rfl
  have F7 := fun_mk (st := s_Share_over) l7 c7 k7
  have b7 := F7.binds (ps := ["self", "other"]) fun _ _ _ _ _ _ us hl => match us, hl with | [_, _], _ => rfl
  have F8 := fun_mk (st := s__law_source) l8 c8 k8
  have b8 := F8.binds (ps := ["_law_script"]) fun _ _ _ _ _ _ us hl => match us, hl with | [_], _ => rfl
  have F9 := fun_mk (st := s__law_take) l9 c9 k9
  have b9 := F9.binds (ps := ["_law_source_here", "_law_many"]) fun _ _ _ _ _ _ us hl => match us, hl with | [_, _], _ => rfl
  have F10 := fun_mk (st := s__law_same) l10 c10 k10
  have b10 := F10.binds (ps := ["_law_one", "_law_other"]) fun _ _ _ _ _ _ us hl => match us, hl with | [_, _], _ => rfl
  have F11 := fun_mk (st := s__law_gcd) l11 c11 k11
  have b11 := F11.binds (ps := ["_law_one", "_law_other"]) fun _ _ _ _ _ _ us hl => match us, hl with | [_, _], _ => rfl
  have F12 := fun_mk (st := s__law_is_share) l12 c12 k12
  have b12 := F12.binds (ps := ["_law_share", "_law_top", "_law_bottom"]) fun _ _ _ _ _ _ us hl => match us, hl with | [_, _, _], _ => rfl
  have F13 := fun_mk (st := s__law_number) l13 c13 k13
  have b13 := F13.binds (ps := ["_law_source_here", "_law_parts"]) fun _ _ _ _ _ _ us hl => match us, hl with | [_, _], _ => rfl
  have F14 := fun_mk (st := s__law_fraction) l14 c14 k14
  have b14 := F14.binds (ps := ["_law_source_here", "_law_parts"]) fun _ _ _ _ _ _ us hl => match us, hl with | [_, _], _ => rfl
  have F15 := fun_mk (st := s__law_first) l15 c15 k15
  have b15 := F15.binds (ps := ["_law_source_here", "_law_second"]) fun _ _ _ _ _ _ us hl => match us, hl with | [_, _], _ => rfl
  have F16 := fun_mk (st := s__law_right_error) l16 c16 k16
  have b16 := F16.binds (ps := ["_law_error"]) fun _ _ _ _ _ _ us hl => match us, hl with | [_], _ => rfl
  have F17 := fun_mk (st := s__law_no_floor) l17 c17 k17
  have b17 := F17.binds (ps := ["_law_one", "_law_other"]) fun _ _ _ _ _ _ us hl => match us, hl with | [_, _], _ => rfl
  have F18 := fun_mk (st := s__law_no_over) l18 c18 k18
  have b18 := F18.binds (ps := ["_law_one", "_law_other"]) fun _ _ _ _ _ _ us hl => match us, hl with | [_, _], _ => rfl
  have F19 := fun_mk (st := s__law_quotients) l19 c19 k19
  have b19 := F19.binds (ps := ["_law_one", "_law_other", "_law_p", "_law_q"]) fun _ _ _ _ _ _ us hl => match us, hl with | [_, _, _, _], _ => rfl
  have F20 := fun_mk (st := s__law_under) l20 c20 k20
  have b20 := F20.binds (ps := ["_law_number_here", "_law_other", "_law_q"]) fun _ _ _ _ _ _ us hl => match us, hl with | [_, _, _], _ => rfl
  have F21 := fun_mk (st := s_law) l21 c21 k21
  have b21 := F21.binds (ps := ["_law_script"]) fun _ _ _ _ _ _ us hl => match us, hl with | [_], _ => rfl
  have E_BadShare : Cls1 l.prog K mg "BadShare" C_BadShare i_BadShare ea_BadShare eb_BadShare (scope1 "text") := { gC := PySem.W.mg_of X G eg1, cls := ⟨n_1, q_1, N_1, bs_1, bm_1, sn_1, sub_1, ab_1, col_1, dd_1, w0_1, w1_1, w2_1, w3_1, w5_1, el1, er1⟩, sa := esa1, ga := ega1, gg := egg1, iC := ein1, tC := eti1, kC := ekc1, exC := ebe1, veC := eve1, tyC := ety1, hdC := ehd1, te := exm_self ebe1 eic1 ety1 ess1, up := eup1, self := emr1, op := zop, noS := PySem.W.mg_none_of X G zsu, fn := ⟨oce_1, ode_1, dce_1, pme_1, ane_1, cda1, cc1, cte_1, sle_1, ccl_1, cl_1, cdd_1, cld_1, vs_1, ccs_1, csl_1, file_1, tf_1, elf1, ecd1, elc1, evs1, efi1, ece1⟩, noM := znm }
  have X_BadShare : ExcC K C_BadShare := ⟨ega1, egg1, ebe1, ehd1, ecl1, zsp, ztk, emo1⟩
  have E_ZeroBelow : Cls1 l.prog K mg "ZeroBelow" C_ZeroBelow i_ZeroBelow ea_ZeroBelow eb_ZeroBelow scope0 := { gC := PySem.W.mg_of X G eg2, cls := ⟨n_2, q_2, N_2, bs_2, bm_2, sn_2, sub_2, ab_2, col_2, dd_2, w0_2, w1_2, w2_2, w3_2, w5_2, el2, er2⟩, sa := esa2, ga := ega2, gg := egg2, iC := ein2, tC := eti2, kC := ekc2, exC := ebe2, veC := eve2, tyC := ety2, hdC := ehd2, te := exm_self ebe2 eic2 ety2 ess2, up := eup2, self := emr2, op := zop, noS := PySem.W.mg_none_of X G zsu, fn := ⟨oce_2, ode_2, dce_2, pme_2, ane_2, cda2, cc2, cte_2, sle_2, ccl_2, cl_2, cdd_2, cld_2, vs_2, ccs_2, csl_2, file_2, tf_2, elf2, ecd2, elc2, evs2, efi2, ece2⟩, noM := znm }
  have X_ZeroBelow : ExcC K C_ZeroBelow := ⟨ega2, egg2, ebe2, ehd2, ecl2, zsp, ztk, emo2⟩
  let T : Txt l.prog K mg := { C_Share := C_Share, g_Share := PySem.W.mg_of X G cg0, cl_Share := cl0, mi_Share := cmi0, kc_Share := ckc0, ins_Share := ⟨cl0, cha0, zsp, ztk, cmo0, cme0⟩, na_Share_top := cna0_0, na_Share_bottom := cna0_1, kt_int_Share := ckt0, v_gcd := PySem.W.mg_of X G cim0, f__is_exact := f0, d__is_exact := _, F__is_exact := F0, b__is_exact := b0, g__is_exact := PySem.W.mg_of X G a0, f__parts := f1, d__parts := _, F__parts := F1, b__parts := b1, g__parts := PySem.W.mg_of X G a1, f__quotient := f2, d__quotient := _, F__quotient := F2, b__quotient := b2, g__quotient := PySem.W.mg_of X G a2, f__floor := f3, d__floor := _, F__floor := F3, b__floor := b3, g__floor := PySem.W.mg_of X G a3, m_Share_init := a4, i_Share_init := if4, b_Share_init := b4, bd_Share_init := bd4, f_Share_init := f4, d_Share_init := _, F_Share_init := F4, m_Share_floordiv := a5, i_Share_floordiv := if5, f_Share_floordiv := f5, d_Share_floordiv := _, F_Share_floordiv := F5, b_Share_floordiv := b5, m_Share_rfloordiv := a6, i_Share_rfloordiv := if6, f_Share_rfloordiv := f6, d_Share_rfloordiv := _, F_Share_rfloordiv := F6, b_Share_rfloordiv := b6, m_Share_over := a7, i_Share_over := if7, f_Share_over := f7, d_Share_over := _, F_Share_over := F7, b_Share_over := b7, f__law_source := f8, d__law_source := _, F__law_source := F8, b__law_source := b8, g__law_source := PySem.W.mg_of X G a8, f__law_take := f9, d__law_take := _, F__law_take := F9, b__law_take := b9, g__law_take := PySem.W.mg_of X G a9, f__law_same := f10, d__law_same := _, F__law_same := F10, b__law_same := b10, g__law_same := PySem.W.mg_of X G a10, f__law_gcd := f11, d__law_gcd := _, F__law_gcd := F11, b__law_gcd := b11, g__law_gcd := PySem.W.mg_of X G a11, f__law_is_share := f12, d__law_is_share := _, F__law_is_share := F12, b__law_is_share := b12, g__law_is_share := PySem.W.mg_of X G a12, f__law_number := f13, d__law_number := _, F__law_number := F13, b__law_number := b13, g__law_number := PySem.W.mg_of X G a13, f__law_fraction := f14, d__law_fraction := _, F__law_fraction := F14, b__law_fraction := b14, g__law_fraction := PySem.W.mg_of X G a14, f__law_first := f15, d__law_first := _, F__law_first := F15, b__law_first := b15, g__law_first := PySem.W.mg_of X G a15, f__law_right_error := f16, d__law_right_error := _, F__law_right_error := F16, b__law_right_error := b16, g__law_right_error := PySem.W.mg_of X G a16, f__law_no_floor := f17, d__law_no_floor := _, F__law_no_floor := F17, b__law_no_floor := b17, g__law_no_floor := PySem.W.mg_of X G a17, f__law_no_over := f18, d__law_no_over := _, F__law_no_over := F18, b__law_no_over := b18, g__law_no_over := PySem.W.mg_of X G a18, f__law_quotients := f19, d__law_quotients := _, F__law_quotients := F19, b__law_quotients := b19, g__law_quotients := PySem.W.mg_of X G a19, f__law_under := f20, d__law_under := _, F__law_under := F20, b__law_under := b20, g__law_under := PySem.W.mg_of X G a20, f_law := fa, d_law := _, F_law := F21, b_law := b21, g_law := PySem.W.mg_of X G a21, r_Share_floordiv := ⟨om_Share, a5, if5, a6, if6, oa_Share, ob_Share, on_Share_floordiv⟩, t_MOST_DIGITS := tk0, v_MOST_DIGITS := PySem.W.mg_of X G v0, C_HornError := C_HornError, g_HornError := PySem.W.mg_of X G eg0, C_BadShare := C_BadShare, i_BadShare := i_BadShare, E_BadShare := E_BadShare, x_BadShare := X_BadShare, o_BadShare := efn1, C_ZeroBelow := C_ZeroBelow, i_ZeroBelow := i_ZeroBelow, E_ZeroBelow := E_ZeroBelow, x_ZeroBelow := X_ZeroBelow, k_BadShare_BadShare := ⟨_, kt0, rfl⟩, k_BadShare_HornError := ⟨_, kt1, rfl⟩, k_BadShare_ValueError := ⟨_, kt2, rfl⟩, k_ZeroBelow_BadShare := ⟨_, kt3, rfl⟩, k_ZeroBelow_HornError := ⟨_, kt4, rfl⟩, k_ZeroBelow_ValueError := ⟨_, kt5, rfl⟩, n_NotImplemented := PySem.W.mg_none_of X G z0, n_ValueError := PySem.W.mg_none_of X G z1, n_abs := PySem.W.mg_none_of X G z2, n_all := PySem.W.mg_none_of X G z3, n_bool := PySem.W.mg_none_of X G z4, n_int := PySem.W.mg_none_of X G z5, n_isinstance := PySem.W.mg_none_of X G z6, n_len := PySem.W.mg_none_of X G z7, n_list := PySem.W.mg_none_of X G z8, n_range := PySem.W.mg_none_of X G z9, n_staticmethod := PySem.W.mg_none_of X G z10, n_str := PySem.W.mg_none_of X G z11, n_super := PySem.W.mg_none_of X G zsu, n_tuple := PySem.W.mg_none_of X G z13 }
  exact ⟨PySem.W.fnOf "law" "law" (defArgs s_law) (defBody s_law) (defScope s_law) .none kV21 dc21 pm21 an21 cd21 ct21, fun s v => .of_eq rfl, fun base _ _ => ok_law T⟩
end Hk4
open PySem PySem.W PyProof.Rows
set_option maxHeartbeats 0 in
theorem PySem.Challenge.cw_renamedhorn_k04_share_quotients_holds : PySem.Challenge.rw_renamedhorn_k04_share_quotients.Holds := by
  w_on; o_law; k_head; (case hw => w_witness2)
  k_fill
  refine L2.walk_of (l := PySem.Challenge.rw_renamedhorn_k04_share_quotients) (n := 63) (k := 8) (x := "_law_script") (CX := fun _ => L2.CX0) (sp := fun w => Hk4.spLaw _) rfl (by decide) rfl ⟨rfl, by decide, by decide⟩ (fun w h Y => PySem.W.kIn_of Y) ?F (fun _ _ a ns hl _ hS => ⟨a, ns, rfl, hS, hl, fun _ => rfl⟩) (fun _ _ _ _ _ h => h)
  case F =>
    intro w mg fa h KX G hmg
    refine' Hk4.all_mk KX G hmg ?cg0 ?cpg0 ?chd0 ?cpo0 ?csa0 ?cmi0 ?ckc0 ?cha0 ?cmo0 ?cme0 ?cna0_0 ?cna0_1 ?om_Share ?oa_Share ?ob_Share ?on_Share_floordiv ?ckt0 ?cim0 ?a0 ?l0 ?c0 ?k0 ?a1 ?l1 ?c1 ?k1 ?a2 ?l2 ?c2 ?k2 ?a3 ?l3 ?c3 ?k3 ?a4 ?l4 ?dl4 ?de4 ?if4 ?c4 ?k4 ?a5 ?l5 ?if5 ?c5 ?k5 ?a6 ?l6 ?if6 ?c6 ?k6 ?a7 ?l7 ?if7 ?c7 ?k7 ?a8 ?l8 ?c8 ?k8 ?a9 ?l9 ?c9 ?k9 ?a10 ?l10 ?c10 ?k10 ?a11 ?l11 ?c11 ?k11 ?a12 ?l12 ?c12 ?k12 ?a13 ?l13 ?c13 ?k13 ?a14 ?l14 ?c14 ?k14 ?a15 ?l15 ?c15 ?k15 ?a16 ?l16 ?c16 ?k16 ?a17 ?l17 ?c17 ?k17 ?a18 ?l18 ?c18 ?k18 ?a19 ?l19 ?c19 ?k19 ?a20 ?l20 ?c20 ?k20 ?a21 ?l21 ?c21 ?k21 ?v0 ?eg0 ?eg1 ?el1 ?er1 ?esa1 ?ega1 ?egg1 ?ein1 ?ecl1 ?efn1 ?eti1 ?ekc1 ?ebe1 ?eve1 ?ety1 ?ehd1 ?eic1 ?ess1 ?eup1 ?emr1 ?emo1 ?elf1 ?ecd1 ?elc1 ?evs1 ?efi1 ?ece1 ?eg2 ?el2 ?er2 ?esa2 ?ega2 ?egg2 ?ein2 ?ecl2 ?eti2 ?ekc2 ?ebe2 ?eve2 ?ety2 ?ehd2 ?eic2 ?ess2 ?eup2 ?emr2 ?emo2 ?elf2 ?ecd2 ?elc2 ?evs2 ?efi2 ?ece2 ?kt0 ?kt1 ?kt2 ?kt3 ?kt4 ?kt5 ?z0 ?z1 ?z2 ?z3 ?z4 ?z5 ?z6 ?z7 ?z8 ?z9 ?z10 ?z11 ?zsu ?z13 ?zop ?zsp ?ztk ?znm
    (case cg0 => k_is); (case cpg0 => k_is); (case chd0 => k_is); (case cpo0 => k_is); (case csa0 => k_is); (case cmi0 => k_is); (case ckc0 => k_is); (case cha0 => k_is); (case cmo0 => k_is)
    (case cme0 => kit_is); (case cna0_0 => k_is); (case cna0_1 => k_is); (case om_Share => (first | k_is | rfl | decide +kernel)); (case oa_Share => (first | k_is | kit_is | rfl))
    (case ob_Share => (first | k_is | kit_is | rfl)); (case on_Share_floordiv => k_is); (case ckt0 => kit_is); (case cim0 => k_is); (case a0 => k_is); (case l0 => k_is); (case c0 => k_is)
    (case k0 => k_is); (case a1 => k_is); (case l1 => k_is); (case c1 => k_is); (case k1 => k_is); (case a2 => k_is); (case l2 => k_is); (case c2 => k_is); (case k2 => k_is); (case a3 => k_is)
    (case l3 => k_is); (case c3 => k_is); (case k3 => k_is); (case a4 => k_is); (case l4 => k_is); (case dl4 => k_is); (case de4 => rfl); (case if4 => k_is); (case c4 => k_is); (case k4 => k_is)
    (case a5 => k_is); (case l5 => k_is); (case if5 => k_is); (case c5 => k_is); (case k5 => k_is); (case a6 => k_is); (case l6 => k_is); (case if6 => k_is); (case c6 => k_is); (case k6 => k_is)
    (case a7 => k_is); (case l7 => k_is); (case if7 => k_is); (case c7 => k_is); (case k7 => k_is); (case a8 => k_is); (case l8 => k_is); (case c8 => k_is); (case k8 => k_is); (case a9 => k_is)
    (case l9 => k_is); (case c9 => k_is); (case k9 => k_is); (case a10 => k_is); (case l10 => k_is); (case c10 => k_is); (case k10 => k_is); (case a11 => k_is); (case l11 => k_is); (case c11 => k_is)
    (case k11 => k_is); (case a12 => k_is); (case l12 => k_is); (case c12 => k_is); (case k12 => k_is); (case a13 => k_is); (case l13 => k_is); (case c13 => k_is); (case k13 => k_is)
    (case a14 => k_is); (case l14 => k_is); (case c14 => k_is); (case k14 => k_is); (case a15 => k_is); (case l15 => k_is); (case c15 => k_is); (case k15 => k_is); (case a16 => k_is)
    (case l16 => k_is); (case c16 => k_is); (case k16 => k_is); (case a17 => k_is); (case l17 => k_is); (case c17 => k_is); (case k17 => k_is); (case a18 => k_is); (case l18 => k_is)
    (case c18 => k_is); (case k18 => k_is); (case a19 => k_is); (case l19 => k_is); (case c19 => k_is); (case k19 => k_is); (case a20 => k_is); (case l20 => k_is); (case c20 => k_is)
    (case k20 => k_is); (case a21 => k_is); (case l21 => k_is); (case c21 => k_is); (case k21 => k_is); (case v0 => k_is); (case eg0 => k_is); (case eg1 => k_is); (case el1 => k_is)
    (case er1 => decide +kernel); (case esa1 => k_is); (case ega1 => k_is); (case egg1 => k_is); (case ein1 => k_is); (case ecl1 => k_is); (case efn1 => k_is); (case eti1 => k_is); (case ekc1 => k_is)
    (case ebe1 => k_is); (case eve1 => k_is); (case ety1 => k_is); (case ehd1 => k_is); (case eic1 => k_is); (case ess1 => first | rfl | k_is); (case eup1 => ks_is); (case emr1 => k_is)
    (case emo1 => k_is); (case elf1 => k_is); (case ecd1 => k_is); (case elc1 => k_is); (case evs1 => rfl); (case efi1 => first | rfl | decide +kernel); (case ece1 => k_is); (case eg2 => k_is)
    (case el2 => k_is); (case er2 => decide +kernel); (case esa2 => k_is); (case ega2 => k_is); (case egg2 => k_is); (case ein2 => k_is); (case ecl2 => k_is); (case eti2 => k_is); (case ekc2 => k_is)
    (case ebe2 => k_is); (case eve2 => k_is); (case ety2 => k_is); (case ehd2 => k_is); (case eic2 => k_is); (case ess2 => first | rfl | k_is); (case eup2 => ks_is); (case emr2 => k_is)
    (case emo2 => k_is); (case elf2 => k_is); (case ecd2 => k_is); (case elc2 => k_is); (case evs2 => rfl); (case efi2 => first | rfl | decide +kernel); (case ece2 => k_is); (case kt0 => kit_is)
    (case kt1 => kit_is); (case kt2 => kit_is); (case kt3 => kit_is); (case kt4 => kit_is); (case kt5 => kit_is); (case z0 => k_is); (case z1 => k_is); (case z2 => k_is); (case z3 => k_is)
    (case z4 => k_is); (case z5 => k_is); (case z6 => k_is); (case z7 => k_is); (case z8 => k_is); (case z9 => k_is); (case z10 => k_is); (case z11 => k_is); (case zsu => k_is); (case z13 => k_is)
    (case zop => k_is); (case zsp => k_is); (case ztk => k_is); (case znm => first | rfl | decide +kernel)
