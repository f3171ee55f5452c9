import PyProof.Rows.All
import Wide.All
import OpenK.AllK
import Wide.FinOn
import HandS.Evl
import HandS.Wide
import HandS.StrMore
import HandS.Text
import HandS.FStr
import HandS.Walk
import HandS.Iter
import HandS.Comp
import PyProof.EqAt
import PyProof.EqKinds
import PyProof.TupleCall
import PyProof.FString
import PyProof.FString4
import KE.KExcSuper
import HandS.ForMost
import HandS.ForExc
import HandS.ExcIs
import KE.KExcIs
import HandS.IsInst
import HandS.ExcCtx
import HandS.HotCalls
import PySem.Challenge.RW_renamedhorn_k00_names_and_literals
set_option Elab.async false
set_option linter.all false
set_option maxRecDepth 100000
set_option maxHeartbeats 4000000
/-! Own error classes (over a class over ValueError) whose __init__ hands a text to super().__init__ and keeps one argument, or none. -/
namespace Er
open PySem PySem.W PySem.Calls PyProof.Rows PySem.HandSPX

/-- the text of __init__(self, f): super().__init__(me); self.f = f -/
def args1 (f : Str) (p1 p2 : Pos) : Arguments := { posonlyargs := [], args := [{ arg := "self", annotation := none, pos := p1 }, { arg := f, annotation := none, pos := p2 }], vararg := none, kwonlyargs := [], kw_defaults := [], kwarg := none, defaults := [] }
def args0 (p1 : Pos) : Arguments := { posonlyargs := [], args := [{ arg := "self", annotation := none, pos := p1 }], vararg := none, kwonlyargs := [], kw_defaults := [], kwarg := none, defaults := [] }
def supS (me : Expr) (a b c d e : Pos) : Stmt := .Expr (.Call (.Attribute (.Call (.Name "super" a) [] [] b) "__init__" c) [me] [] d) e
def keepS (f : Str) (a b c d : Pos) : Stmt := .Assign [.Attribute (.Name "self" a) f b] (.Name f c) d
def scope1 (f : Str) : Scope := { kind := .function, names := [(PySem.Str.ofString "self", .local), (f, .local), (PySem.Str.ofString "__class__", .free), (PySem.Str.ofString "super", .globalImplicit)], isGenerator := false, isCoroutine := false, more := [] }
def scope0 : Scope := { kind := .function, names := [(PySem.Str.ofString "self", .local), (PySem.Str.ofString "__class__", .free), (PySem.Str.ofString "super", .globalImplicit)], isGenerator := false, isCoroutine := false, more := [] }

/-- what the written part says of an error class at C with its __init__ at fI, its __class__ cell at cc, its code at cda -/
structure Cls1 (P : Program) (K : Frag) (mg : Str → Option Value) (nm : Str) (C fI : Addr) (pars : Arguments) (body : List Stmt) (sc : Scope) : Prop where
  gC : mg nm = some (.ref C)
  cls : ∃ n q N bs bm sn sub ab col dd k0 k1 k2 k3 k5, K.lookup C = some (excClassObj n q C N bs bm true sn sub ab col dd k0 k1 k2 k3 k5 "ValueError.__new__") ∧ refsVE bm = true
  sa : findIn K (.ref C) "__setattr__" = some (some (.builtin "object.__setattr__"))
  ga : findIn K (.ref C) "__getattribute__" = some (some (.builtin "BaseException.__getattribute__"))
  gg : findIn K (.ref C) "__getattr__" = some none
  iC : findIn K (.ref C) "__init__" = some (some (.ref fI))
  tC : typeIn K (.ref fI) = some (.type "function")
  kC : keepIn K (.ref C) = true
  exC : subIn K (.ref C) (.type "BaseException") = some true
  veC : subIn K (.ref C) (.type "ValueError") = some true
  tyC : typeIn K (.ref C) = some (.type "type")
  hdC : hasDictIn K C = true
  te : exmOne K (.ref C) (.ref C) = some true
  up : ks_superIn K C C "__init__" = some (some (.builtin "ValueError.__init__"))
  self : mroIn K C (.ref C) = some true
  op : nsIn K cStatics "thirdparty.any" = some none
  noS : mg "super" = none
  fn : ∃ (oc : Value) (od : Option Addr) (doc pm : Value) (an : Option Addr) (cda cc : Addr) (ct : Value) (osl : Array (Option Value)) (ccl cl : Value) (cdd cld : Option Addr) (vs : Array Value) (ccs csl : Array (Option Value)) (file : Str) (tf : Tok),
    K.lookup fI = some ⟨oc, od, .func (ksFn "__init__" (nm ++ ".__init__") pars body sc .none .none doc pm an (.ref cda) ct cc), osl⟩ ∧ codeIn K (.ref cda) (nm ++ ".__init__") = true ∧
    K.lookup cda = some ⟨ccl, cdd, .fields vs, ccs⟩ ∧ vs[2]? = some (.str file tf) ∧ ((P.main.file : Str) == file) = true ∧
    K.lookup cc = some ⟨cl, cld, .cell (some (.ref C)), csl⟩
  noM : (P.main.scope.names.lookup ("super" : Str)).isSome = false

/-- an expression that gives a text and makes nothing else, where the name x holds v -/
structure Msg (me : Expr) (x : Str) (v : Value) (sc : Scope) : Prop where
  call : ∀ (env : Env) (a b c d : Pos), (c.endLine == d.line) = true → ∃ pl : Sem Bool, eval (.Call (.Attribute (.Call (.Name "super" a) [] [] b) "__init__" c) [me] [] d) env = (do
      let ov ← attributeBase (.Call (.Name "super" a) [] [] b) "__init__" env (eval (.Call (.Name "super" a) [] [] b) env)
      standAt c.atName
      let (f, first) ← holding [ov] (getMethod ov "__init__" pl)
      callWith d f first (backTo d (starEach [me] env)) [])
  star : ∀ env : Env, starEach [me] env = (false, eval me env) :: starEach [] env
  swap : ∀ (env : Env) (a b c d : Pos) (n : Nat), swapsWith (.Call (.Attribute (.Call (.Name "super" a) [] [] b) "__init__" c) [me] [] d) none n env = pure false
  text : ∀ (prog : Program) (w : World) (A : Around) (E : Value → Shared → Prop) (env : Env) (s : Shared) (m : Str → Option Value) (Q : Value → Shared → Prop),
    env.scope = sc → s.heap.Ns env.locals m → m x = some v → (∀ y tk n, Q (.str y tk) { s with toks := n }) → wpAny (model prog w) A (eval me env) Q E s

theorem size1 (v : Value) : [v].length ≤ sizeLine := by
  rw [sizeLine_eq]
  exact (by decide : 1 ≤ 16777216)
theorem size0 : ([] : List Value).length ≤ sizeLine := Nat.zero_le _
theorem call_eq {o me : Expr} {nm : Str} {c d : Pos} {env : Env} (he : (c.endLine == d.line) = true) (hf : methodCallForm ([me].length + ([] : List Keyword).length) (backTo d (starEach [me] env)) (backToKw d (keywordEach [] env)) = true) :
    eval (.Call (.Attribute o nm c) [me] [] d) env = (do
      let ov ← attributeBase o nm env (eval o env)
      standAt c.atName
      let (f, first) ← holding [ov] (getMethod ov nm (do return (← importBound o env).getD true))
      callWith d f first (backTo d (starEach [me] env)) []) := by
  show (do
    let ov ← attributeBase o nm env (eval o env)
    standAt c.atName
    methodCall o nm c d env ov ([me].length + ([] : List Keyword).length) (backTo d (starEach [me] env)) (backToKw d (keywordEach [] env))) = _
  unfold methodCall
  rw [hf]
  unfold methodCallPos
  simp only [he, Bool.or_true, if_true]
  rfl
/-- an error of the class at S is what «except S» names -/
theorem exm_self {S : Addr} {K : Frag} (h1 : subIn K (.ref S) (.type "BaseException") = some true) (h2 : isClsIn K S = true) (h3 : typeIn K (.ref S) = some (.type "type")) (h4 : subIn K (.ref S) (.ref S) = some true) :
    exmOne K (.ref S) (.ref S) = some true := by
  have e1 : (subIn K (.ref S) (.type "BaseException") == some true) = true := by rw [h1] <;> rfl
  have e2 : ((clsIn K S).isSome && typeIn K (.ref S) == some (.type "type")) = true := by
    have h2' : (clsIn K S).isSome = true := h2
    rw [h2', h3] <;> rfl
  show (if (subIn K (.ref S) (.type "BaseException") == some true) = true then (if ((clsIn K S).isSome && typeIn K (.ref S) == some (.type "type")) = true then subIn K (.ref S) (.ref S) else none) else none) = some true
  rw [if_pos e1, if_pos e2]
  exact h4
structure Made (h h' : Heap) (e C : Addr) (d : Option Addr) (F : Str → Option Value) : Prop where
  keep : ∀ b o, h.get? b = some o → h'.get? b = some o
  new : h.objs.size ≤ e
  obj : ∃ oe vs, h'.get? e = some oe ∧ oe.cls = .ref C ∧ oe.dict = d ∧ oe.data = .fields vs ∧ vs[1]? = some .none
  own : ∀ dx, d = some dx → h.objs.size ≤ dx ∧ dx ≠ e ∧ h'.Ns1 dx F

section
variable {prog : Program} {w : World} {A : Around} {E : Value → Shared → Prop} {R : Result → Shared → Prop} {s : Shared} {K : Frag} {mg mb : Str → Option Value} {C fI : Addr} {nm f : Str}

/-- ValueError.__init__ bound to the exception, called -/
theorem call_mw {h : Heap} {g : Array GenState} {d : Drawn} {t : Nat} {os : OsState} {n q : Str} {N : Addr} {bs bm : List Value} {hdct : Bool} {sn : List Str} {sub : List Value} {ab : Bool} {col : Option Bool} {dd : Option Addr} {k0 k1 k2 k3 k5 : Option Value}
    {u e t0 : Addr} {rest : List Value} {Q : Value → Shared → Prop}
    (hC : h.get? C = some (excClassObj n q C N bs bm hdct sn sub ab col dd k0 k1 k2 k3 k5 "ValueError.__new__")) (he : h.get? e = some (excO C t0)) (hu : h.get? u = some (kxs_mw "ValueError.__init__" e)) (hrest : rest.length ≤ sizeLine)
    (hq : ∀ h' t1, (∀ b o, b ≠ e → h.get? b = some o → h'.get? b = some o) → h'.get? e = some (excO C t1) → Q .none ⟨h', g, d, t, os⟩) :
    wpAny (model prog w) A (call (.ref u) rest) Q E ⟨h, g, d, t, os⟩ := by
  refine wpAny_call
    (codeAny_of_tree ?_)
  show wpAny _ A.in1
    (callAny (.ref u) ⟨rest, []⟩) _ _ _
  simp only
    [callAny]
  refine wpAny_bind
    (wpAny_load hu ?_)
  simp only [kxs_mw, show (Value.type "method-wrapper" == Value.type "method" || Value.type "method-wrapper" == Value.type "builtin_function_or_method" ||
    Value.type "method-wrapper" == Value.type "method-wrapper") = true by decide, if_true]
  refine KFB.if_so (by decide) ?_
  refine wpAny_bind
    (check_bound_init PySem.F.excBase_ValueError.toExcCallFacts hC he rfl ?_)
  refine wpAny_bind (wpAny_pure
    (wpAny_pure ?_))
  refine ⟨plainId_quiet PySem.F.excBase_ValueError.init.plain _, codeAny_builtin PySem.F.excBase_ValueError.initEntry ?_⟩
  exact exc_init_tree (cls := .ref C) (t0 := t0) (dv := none) (c2 := .none) (c3 := .none) (b4 := .bool false) he hrest
    (fun h' k e' _ => hq h' _ k e')

/-- what super().__init__(..) leaves of a fresh exception at x -/
structure Sup (h h' : Heap) (x C : Addr) : Prop where
  keep : ∀ b o, b ≠ x → h.get? b = some o → h'.get? b = some o
  obj : ∃ t1, h'.get? x = some (excO C t1)
theorem sup_body {pars : Arguments} {body0 body : List Stmt} {sc : Scope} {me : Expr} {a b c d e : Pos} {env : Env} {L t0 x : Addr} {m : Str → Option Value} {y : Str} {v : Value} {rest : List Stmt} {Q : Flow → Shared → Prop} {ar : Arg} {h : Heap} {g : Array GenState} {dr : Drawn} {t : Nat} {os : OsState}
    (T : Cls1 prog K mg nm C fI pars body0 sc) (X : K.In h) (hg : h.Ns mainGlobals mg) (hb : h.Ns builtinsNs mb) (hbb : ∀ z : Str, z ≠ "__name__" → mb z = bootBuiltins z)
    (hL : h.Ns L m) (hx : h.get? x = some (excO C t0)) (hself : m "self" = some (.ref x)) (hp : (pars.posonlyargs ++ pars.args).head? = some ar) (hpa : ar.arg = "self") (hM : Msg me y v sc) (hmy : m y = some v)
    (henv : ∃ qual cda cc ccl cl cdd cld vs ccs csl file tf, env = ksEnv qual sc L fI (.ref cda) cc ∧ K.lookup cda = some ⟨ccl, cdd, .fields vs, ccs⟩ ∧ vs[2]? = some (.str file tf) ∧ ((prog.main.file : Str) == file) = true ∧
      K.lookup cc = some ⟨cl, cld, .cell (some (.ref C)), csl⟩)
    (hks : sc.names.lookup ("super" : Str) = some .globalImplicit) (hkc : sc.names.lookup ("__class__" : Str) = some .free) (hka : sc.names.lookup ("self" : Str) = some .local) (hk : sc.kind = .function) (hcd : (c.endLine == d.line) = true)
    (hq : ∀ h' tk, Sup h h' x C → _root_.PySem.wpAt (model prog w) A (.func body env) (execs rest env) Q E ⟨h', g, dr, tk, os⟩) :
    _root_.PySem.wpAt (model prog w) A (.func body env) (execs (supS me a b c d e :: rest) env) Q E ⟨h, g, dr, t, os⟩ := by
  obtain ⟨qual, cda, cc, ccl, cl, cdd, cld, vs, ccs, csl, file, tf, rfl, hcode, hvs, hfile, hcell⟩ := henv
  obtain ⟨oc, od, doc, pm, an, cda', cc', ct, osl, ccl', cl', cdd', cld', vs', ccs', csl', file', tf', hf, _⟩ := T.fn
  obtain ⟨n, q, N, bs, bm, sn, sub, ab, col, dd, k0, k1, k2, k3, k5, hC, hbm⟩ := T.cls
  have hcl : clsIn K C = some { name := n, bases := bs, mro := .ref C :: bm, ns := N, qualname := q, hasDict := true, slotNames := sn, subclasses := sub, abstract := ab, collection := col, hasDel := false } := by unfold clsIn; rw [hC] <;> rfl
  have hup : alongIn K "__init__" (((Value.ref C :: bm).dropWhile (· != .ref C)).drop 1) = some (some (.builtin "ValueError.__init__")) := by
    have z := T.up
    unfold ks_superIn at z
    rw [hcl] at z
    exact z
  obtain ⟨pl, hcall⟩ := hM.call (ksEnv qual sc L fI (.ref cda) cc) a b c d hcd
  refine ks_wpAt_execs_cons (ks_wpAt_Expr_any (ks_wpAt_MethodCall (pl := pl) ?_ hcall) (by show (sc.kind == .module && _) = false; rw [hk]; rfl) (hM.swap _ _ _ _ _ _))
  refine ks_wpAt_super_base (fd := ksFn "__init__" (nm ++ ".__init__") pars body0 sc .none .none doc pm an (.ref cda') ct cc') hks hkc (by decide) rfl (X _ _ hf) rfl hp rfl (X _ _ hcode) rfl hvs hfile T.noM ?_
  refine ks_loadName_global hk hks (loadGlobal_builtin (env := ksEnv qual sc L fI (.ref cda) cc) hg T.noS hb ((hbb _ (by decide)).trans (show bootBuiltins "super" = some (.type "super") by first | rfl | kernel_rfl)) ⟨rfl, ?_⟩)
  refine wpAny_loadName_free hk hkc (c := cc) (v := .ref C) rfl ⟨_, X _ _ hcell, rfl⟩ ?_
  rw [hpa]
  refine wpAny_loadName_local hk hka hL hself ?_
  refine ks_wpAny_isType_cls (X _ _ hC) rfl ⟨rfl, ?_⟩
  have I : InstAt h x (excO C t0) C none := ⟨hx, rfl, rfl, trivial⟩
  refine ks_wpAny_call_super (X _ _ hC) rfl hx rfl (fun c z => by cases z) (looks_mroIn X T.self) (fun h2 hso kk => ?_)
  have X2 : K.In h2 := X.keeps kk
  have hx2 := kk _ _ hx
  have I2 : InstAt h2 x (excO C t0) C none := ⟨hx2, rfl, rfl, trivial⟩
  refine kxs_getMethod kxs_ValueError hso (looks_opaque X2 T.op) (l₀ := .ref C :: bm) (fun A Q E s k q => wpAny_bind ((looks_clsIn X2 hcl) A _ E s k (wpAny_pure q))) rfl X2 hup (I2.type.andThen (looks_subIn X2 T.veC)) (ks_ne X2 I2 hcl) (by decide) ?_
  have kk3 : ∀ b o, h2.get? b = some o → (h2.push (kxs_mw "ValueError.__init__" x)).get? b = some o := fun b o z => Heap.get?_push_of_some _ z
  have hu : (h2.push (kxs_mw "ValueError.__init__" x)).get? h2.objs.size = some (kxs_mw "ValueError.__init__" x) := Heap.get?_push_at rfl rfl
  have hLx : L ≠ x := fun z => by
    obtain ⟨oL, es, ep, hoL, hdL, _⟩ := hL
    rw [z, hx] at hoL
    have z2 := Option.some.inj hoL
    subst z2
    cases hdL
  have he1 := hM.star (ksEnv qual sc L fI (.ref cda) cc)
  refine kxs_callWith (i := "ValueError.__init__") (x := x) (by rw [he1]; rfl) ?_
  rw [he1]
  refine evalArgs_plain ?_
  refine spliced_cons ?_
  refine hM.text _ _ _ _ _ _ m _ rfl (hL.keeps fun b o z => kk3 b o (kk b o z)) hmy (fun y' tk' n' => ?_)
  refine spliced_nil ?_
  refine ⟨hu, ?_⟩
  refine call_mw (X2.keeps kk3 _ _ hC) (kk3 _ _ hx2) hu (size1 _) (fun h' t1 k' e' => ?_)
  exact hq h' _ ⟨fun b o nb z => k' b o nb (kk3 b o (kk b o z)), t1, e'⟩
theorem ldL {env : Env} {m : Str → Option Value} {x : Str} {pos : Pos} {v : Value} {Q : Value → Shared → Prop} (hn : s.heap.Ns env.locals m) (hv : m x = some v) (hk : env.scope.kind = .function) (hl : env.kindOf x = some .local) (hd : (x == ("__debug__" : Str)) = false) (h : Q v s) :
    wpAny (model prog w) A (eval (.Name x pos) env) Q E s := wpAny_Name (wpAny_loadName_local hk hl hn hv h) hd


/-- how a field's name stands in such a text -/
structure Fld (f : Str) : Prop where
  bind : ∀ (q : Str) (p1 p2 : Pos) (body : List Stmt) (dV kV doc pm : Value) (an : Option Addr) (cd ct : Value) (cc : Addr) (x v : Value), bindArgs (ksFn "__init__" q (args1 f p1 p2) body (scope1 f) .none .none doc pm an cd ct cc) ⟨[x, v], []⟩ = pure [(("self" : Str), x), (f, v)]
  ne : (f == ("self" : Str)) = false
  dbg : (f == ("__debug__" : Str)) = false
  kf : (scope1 f).names.lookup f = some .local
  ks : (scope1 f).names.lookup ("super" : Str) = some .globalImplicit
  kc : (scope1 f).names.lookup ("__class__" : Str) = some .free
  cell : ∀ x ∈ (scope1 f).names, x.2 ≠ .cell

/-- what __init__ leaves of a fresh exception at x: a dict at dx that holds the field -/
structure End1 (h h' : Heap) (x C dx : Addr) (f : Str) (v : Value) : Prop where
  keep : ∀ b o, b ≠ x → h.get? b = some o → h'.get? b = some o
  obj : ∃ t1, h'.get? x = some { cls := .ref C, dict := some dx, data := .fields #[.ref t1, .none, .none, .none, .bool false, .none] }
  big : h.objs.size ≤ dx
  ne : dx ≠ x
  ns : h'.Ns1 dx (fun y => if y = f then some v else none)
/-- the __init__ of one argument -/
theorem init1 {f : Str} {p1 p2 a b c d e a' b' c' d' : Pos} {me : Expr} {x t0 : Addr} {v : Value}
    (T : Cls1 prog K mg nm C fI (args1 f p1 p2) [supS me a b c d e, keepS f a' b' c' d'] (scope1 f)) (X : K.In s.heap) (hg : s.heap.Ns mainGlobals mg) (hb : s.heap.Ns builtinsNs mb) (hbb : ∀ z : Str, z ≠ "__name__" → mb z = bootBuiltins z)
    (hlim : s.heap.NoLimit) (hx : s.heap.get? x = some (excO C t0)) (hnx : K.lookup x = none) (hroom : A.depth < recursionLimit) (hM : Msg me f v (scope1 f)) (hcdp : (c.endLine == d.line) = true) (hF : Fld f) (noN : findIn K (.ref C) f = some none)
    (hq : ∀ h' tk dx, End1 s.heap h' x C dx f v → R (.ok (.ret .none)) { s with heap := h', toks := tk }) :
    codeAny (model prog w) A (.call (.ref fI) ⟨[.ref x, v], []⟩) R s := by
  obtain ⟨oc, od, doc, pm, an, cda, cc, ct, osl, ccl, cl, cdd, cld, vs, ccs, csl, file, tf, hf, hcd, hcode, hvs, hfile, hcell⟩ := T.fn
  obtain ⟨n, q, N, bs, bm, sn, sub, ab, col, dd, k0, k1, k2, k3, k5, hC, hbm⟩ := T.cls
  have hcl : clsIn K C = some { name := n, bases := bs, mro := .ref C :: bm, ns := N, qualname := q, hasDict := true, slotNames := sn, subclasses := sub, abstract := ab, collection := col, hasDel := false } := by unfold clsIn; rw [hC] <;> rfl
  have l1 : (scope1 f).names.lookup ("self" : Str) = some .local := rfl
  have fs : ¬ f = ("self" : Str) := by simpa using hF.ne
  refine ks_codeAny_call_defAt (fd := ksFn "__init__" (nm ++ ".__init__") (args1 f p1 p2) [supS me a b c d e, keepS f a' b' c' d'] (scope1 f) .none .none doc pm an (.ref cda) ct cc) (body := [supS me a b c d e, keepS f a' b' c' d'])
    (binds := [(("self" : Str), Value.ref x), (f, v)]) hroom (X _ _ hf) rfl hlim (codeRec_of X hcd) rfl (BindsTo.of_eq (hF.bind _ _ _ _ .none .none _ _ _ _ _ _ _ _)) hF.cell (fun y hy => ?_) (fun h₁ hns kk => ?_)
  · rcases List.mem_cons.mp hy with e | hy
    · rw [e]
      exact l1
    · rw [List.mem_singleton.mp hy]
      exact hF.kf
  · obtain ⟨hp, g, dr, tk, os⟩ := s
    have X1 : K.In h₁ := X.keeps kk
    have ms : (fun y : Str => ([(("self" : Str), Value.ref x), (f, v)]).reverse.lookup y) ("self" : Str) = some (.ref x) := by
      show List.lookup ("self" : Str) [(f, v), (("self" : Str), Value.ref x)] = some (.ref x)
      have z : (("self" : Str) == f) = false := by
        rw [beq_eq_false_iff_ne]
        exact fun z => fs z.symm
      rw [List.lookup_cons, z]
      simp [List.lookup]
    have mf : (fun y : Str => ([(("self" : Str), Value.ref x), (f, v)]).reverse.lookup y) f = some v := by
      show List.lookup f [(f, v), (("self" : Str), Value.ref x)] = some v
      simp [List.lookup]
    have hL : hp.objs.size ≠ x := Nat.ne_of_gt (Heap.lt_size hx)
    refine sup_body (mb := mb) T X1 (hg.keeps kk) (hb.keeps kk) hbb hns (kk _ _ hx) ms rfl rfl hM mf ⟨_, cda, cc, ccl, cl, cdd, cld, vs, ccs, csl, file, tf, rfl, hcode, hvs, hfile, hcell⟩ hF.ks hF.kc l1 rfl hcdp (fun h2 tk2 S => ?_)
    obtain ⟨t1, hx2⟩ := S.obj
    have hns2 : h2.Ns hp.objs.size _ := hns.at fun o z => S.keep _ _ hL z
    have X2 : K.In h2 := fun b o z => S.keep b o (fun y => by
      rw [y, hnx] at z
      cases z) (X1 b o z)
    refine ks_wpAt_execs_cons (wpAt_of_wpAny ?_)
    refine plainObj_wpAny_Assign_Attribute ?_
    refine ldL (v := v) hns2 mf rfl hF.kf hF.dbg (ldL (v := .ref x) hns2 ms rfl l1 (by decide) ?_)
    refine set_plain X2 (ox := excO C t1) (od := none) ⟨hx2, rfl, rfl, trivial⟩ T.sa ?_
    refine exc_osa X2 hx2 hcl (show refsVE (.ref C :: bm) = true from hbm) rfl noN (fun h3 tk3 dx k3 dn dne hx3 hn3 => ?_)
    refine wpAt_of_wpAny (wpAny_execs_nil (hq h3 tk3 dx ⟨fun b o nb z => k3 b o nb (S.keep b o nb (kk b o z)), ⟨t1, hx3⟩, ?_, dne, hn3⟩))
    obtain ⟨oL, _, _, hoL, _⟩ := hns2
    exact Nat.le_trans (Nat.le_of_lt (Heap.lt_size hoL)) dn
theorem cell0 : ∀ y ∈ scope0.names, y.2 ≠ .cell := by decide
/-- the __init__ without argument -/
theorem init0 {p1 a b c d e : Pos} {me : Expr} {x t0 : Addr} (T : Cls1 prog K mg nm C fI (args0 p1) [supS me a b c d e] scope0) (X : K.In s.heap) (hg : s.heap.Ns mainGlobals mg) (hb : s.heap.Ns builtinsNs mb) (hbb : ∀ z : Str, z ≠ "__name__" → mb z = bootBuiltins z)
    (hlim : s.heap.NoLimit) (hx : s.heap.get? x = some (excO C t0)) (hnx : K.lookup x = none) (hroom : A.depth < recursionLimit) (hM : Msg me "self" (.ref x) scope0) (hcdp : (c.endLine == d.line) = true)
    (hq : ∀ h' tk, Sup s.heap h' x C → R (.ok (.ret .none)) { s with heap := h', toks := tk }) :
    codeAny (model prog w) A (.call (.ref fI) ⟨[.ref x], []⟩) R s := by
  obtain ⟨oc, od, doc, pm, an, cda, cc, ct, osl, ccl, cl, cdd, cld, vs, ccs, csl, file, tf, hf, hcd, hcode, hvs, hfile, hcell⟩ := T.fn
  refine ks_codeAny_call_defAt (fd := ksFn "__init__" (nm ++ ".__init__") (args0 p1) [supS me a b c d e] scope0 .none .none doc pm an (.ref cda) ct cc) (body := [supS me a b c d e])
    (binds := [(("self" : Str), Value.ref x)]) hroom (X _ _ hf) rfl hlim (codeRec_of X hcd) rfl (BindsTo.of_eq rfl) (by intro y hy; exact cell0 y hy) (fun y hy => ?_) (fun h₁ hns kk => ?_)
  · rw [List.mem_singleton.mp hy]
    rfl
  · obtain ⟨hp, g, dr, tk, os⟩ := s
    have X1 : K.In h₁ := X.keeps kk
    refine sup_body (mb := mb) T X1 (hg.keeps kk) (hb.keeps kk) hbb hns (kk _ _ hx) rfl rfl rfl hM rfl ⟨_, cda, cc, ccl, cl, cdd, cld, vs, ccs, csl, file, tf, rfl, hcode, hvs, hfile, hcell⟩ rfl rfl rfl rfl hcdp (fun h2 tk2 S => ?_)
    exact wpAt_of_wpAny (wpAny_execs_nil (hq h2 tk2 ⟨fun b o nb z => S.keep b o nb (kk b o z), S.obj⟩))

/-- a made error of one argument -/
structure Own1 (h h' : Heap) (e C d : Addr) (f : Str) (v : Value) : Prop where
  keep : ∀ b o, h.get? b = some o → h'.get? b = some o
  new : h.objs.size ≤ e
  obj : ∃ oe vs, h'.get? e = some oe ∧ oe.cls = .ref C ∧ oe.dict = some d ∧ oe.data = .fields vs ∧ vs[1]? = some .none ∧ vs[2]? = some .none
  big : h.objs.size ≤ d
  ne : d ≠ e
  ns : h'.Ns1 d (fun y => if y = f then some v else none)
structure Own0 (h h' : Heap) (e C : Addr) : Prop where
  keep : ∀ b o, h.get? b = some o → h'.get? b = some o
  new : h.objs.size ≤ e
  obj : ∃ oe vs, h'.get? e = some oe ∧ oe.cls = .ref C ∧ oe.dict = none ∧ oe.data = .fields vs ∧ vs[1]? = some .none ∧ vs[2]? = some .none
theorem fresh_of {hp : Heap} (X : K.In hp) {n : Nat} (h : hp.objs.size ≤ n) : K.lookup n = none := by
  cases e : K.lookup n with
  | none => rfl
  | some o => exact absurd (Nat.lt_of_lt_of_le (Heap.lt_size (X _ _ e)) h) (Nat.lt_irrefl _)
theorem made1 {f : Str} {p1 p2 a b c d e a' b' c' d' : Pos} {me : Expr} {v : Value}
    (T : Cls1 prog K mg nm C fI (args1 f p1 p2) [supS me a b c d e, keepS f a' b' c' d'] (scope1 f)) (X : K.In s.heap) (hg : s.heap.Ns mainGlobals mg) (hb : s.heap.Ns builtinsNs mb) (hbb : ∀ z : Str, z ≠ "__name__" → mb z = bootBuiltins z)
    (hlim : s.heap.NoLimit) (hroom : A.depth + 1 < recursionLimit) (hM : Msg me f v (scope1 f)) (hcdp : (c.endLine == d.line) = true) (hF : Fld f) (noN : findIn K (.ref C) f = some none)
    (hq : ∀ h' tk x dx, Own1 s.heap h' x C dx f v → R (.ok (.ret (.ref x))) { s with heap := h', toks := tk }) : codeAny (model prog w) A (.call (.ref C) ⟨[v], []⟩) R s := by
  obtain ⟨n, q, N, bs, bm, sn, sub, ab, col, dd, k0, k1, k2, k3, k5, hC, hbm⟩ := T.cls
  obtain ⟨hp, g, dr, tk, os⟩ := s
  have k : ∀ b o, hp.get? b = some o → ((hp.push (kdv_tup [v])).push (excO C hp.objs.size)).get? b = some o := fun b o z => Heap.get?_push_of_some _ (Heap.get?_push_of_some _ z)
  have hget : ((hp.push (kdv_tup [v])).push (excO C hp.objs.size)).get? (hp.objs.size + 1) = some (excO C hp.objs.size) := by heap_get
  refine call_own PySem.F.excBase_ValueError (fun Y => refsVE_contains Y bm hbm) (X _ _ hC) (looks_findIn X T.iC) (fun self => bind_fn X self T.tC) (size1 v) ?_
  refine init1 (mb := mb) (s := ⟨(hp.push (kdv_tup [v])).push (excO C hp.objs.size), g, dr, tk, os⟩) T (X.keeps k) (hg.keeps k) (hb.keeps k) hbb (hlim.keeps k) hget (fresh_of X (Nat.le_succ _)) hroom hM hcdp hF noN fun h' tk' dx Z => ?_
  have old : ∀ b o, hp.get? b = some o → h'.get? b = some o := fun b o z => Z.keep b o (Nat.ne_of_lt (Nat.lt_succ_of_lt (Heap.lt_size z))) (k b o z)
  have z : hp.objs.size + 1 + 1 ≤ dx := by
    have q := Z.big
    rw [Heap.size_push, Heap.size_push] at q
    exact q
  obtain ⟨t1, ho⟩ := Z.obj
  exact ⟨rfl, hq h' tk' (hp.objs.size + 1) dx ⟨old, Nat.le_succ _, ⟨_, _, ho, rfl, rfl, rfl, rfl, rfl⟩, Nat.le_trans (Nat.le_trans (Nat.le_succ _) (Nat.le_succ _)) z, Z.ne, Z.ns⟩⟩
theorem made0 {p1 a b c d e : Pos} {me : Expr}
    (T : Cls1 prog K mg nm C fI (args0 p1) [supS me a b c d e] scope0) (X : K.In s.heap) (hg : s.heap.Ns mainGlobals mg) (hb : s.heap.Ns builtinsNs mb) (hbb : ∀ z : Str, z ≠ "__name__" → mb z = bootBuiltins z)
    (hlim : s.heap.NoLimit) (hroom : A.depth + 1 < recursionLimit) (hM : ∀ x : Addr, Msg me "self" (.ref x) scope0) (hcdp : (c.endLine == d.line) = true)
    (hq : ∀ h' tk x, Own0 s.heap h' x C → R (.ok (.ret (.ref x))) { s with heap := h', toks := tk }) : codeAny (model prog w) A (.call (.ref C) ⟨[], []⟩) R s := by
  obtain ⟨n, q, N, bs, bm, sn, sub, ab, col, dd, k0, k1, k2, k3, k5, hC, hbm⟩ := T.cls
  obtain ⟨hp, g, dr, tk, os⟩ := s
  have k : ∀ b o, hp.get? b = some o → ((hp.push (kdv_tup [])).push (excO C hp.objs.size)).get? b = some o := fun b o z => Heap.get?_push_of_some _ (Heap.get?_push_of_some _ z)
  have hget : ((hp.push (kdv_tup [])).push (excO C hp.objs.size)).get? (hp.objs.size + 1) = some (excO C hp.objs.size) := by heap_get
  refine call_own PySem.F.excBase_ValueError (fun Y => refsVE_contains Y bm hbm) (X _ _ hC) (looks_findIn X T.iC) (fun self => bind_fn X self T.tC) size0 ?_
  refine init0 (mb := mb) (s := ⟨(hp.push (kdv_tup [])).push (excO C hp.objs.size), g, dr, tk, os⟩) T (X.keeps k) (hg.keeps k) (hb.keeps k) hbb (hlim.keeps k) hget (fresh_of X (Nat.le_succ _)) hroom (hM _) hcdp fun h' tk' Z => ?_
  have old : ∀ b o, hp.get? b = some o → h'.get? b = some o := fun b o z => Z.keep b o (Nat.ne_of_lt (Nat.lt_succ_of_lt (Heap.lt_size z))) (k b o z)
  obtain ⟨t1, ho⟩ := Z.obj
  exact ⟨rfl, hq h' tk' (hp.objs.size + 1) ⟨old, Nat.le_succ _, ⟨_, _, ho, rfl, rfl, rfl, rfl, rfl⟩⟩⟩
end

/-! ### the texts of the messages -/
section
variable {f : Str} {sc : Scope}
theorem text_const {prog : Program} {w : World} {A : Around} {E : Value → Shared → Prop} {env : Env} {s : Shared} {Q : Value → Shared → Prop} {c : Str} {k : Nat} {p : Pos} (h : Q (.str c s.toks) { s with toks := s.toks + 1 }) : wpAny (model prog w) A (eval (.Constant (.str c) k p) env) Q E s := wpAny_Constant_str h
theorem msg_c {x : Str} {v : Value} {c : Str} {k : Nat} {p : Pos} : Msg (.Constant (.str c) k p) x v sc where
  call := fun env a b c' d e => ⟨_, call_eq e rfl⟩
  star := fun env => rfl
  swap := fun _ _ _ _ _ _ => rfl
  text := fun prog w A E env s m Q he hn hv h => wpAny_Constant_str (h c s.toks _)
/-- one part behind another, the field in {..!r} or {..}: a text | an int -/
theorem part_s {prog : Program} {w : World} {A : Around} {E : Value → Shared → Prop} {env : Env} {s : Shared} {m : Str → Option Value} {y : Str} {t : Tok} {p q : Pos} {Q : Value → Shared → Prop} (hF : sc.names.lookup f = some .local) (hk : sc.kind = .function) (hd : (f == ("__debug__" : Str)) = false) (he : env.scope = sc)
    (hn : s.heap.Ns env.locals m) (hv : m f = some (.str y t)) (hz : y.length ≤ sizeLine) (h : ∀ tk n, Q (.str y tk) { s with toks := n }) : wpAny (model prog w) A (eval (.FormattedValue (.Name f p) (-1) none q) env) Q E s := by
  refine wpAny_FormattedValue_plain (ldL hn hv (by rw [he]; exact hk) (by show env.scope.names.lookup f = _; rw [he]; exact hF) hd ?_)
  exact wpAny_formatField_str (h _ s.toks) (h _ _) hz
theorem part_r {prog : Program} {w : World} {A : Around} {E : Value → Shared → Prop} {env : Env} {s : Shared} {m : Str → Option Value} {y : Str} {t : Tok} {p q : Pos} {Q : Value → Shared → Prop} (hF : sc.names.lookup f = some .local) (hk : sc.kind = .function) (hd : (f == ("__debug__" : Str)) = false) (he : env.scope = sc)
    (hn : s.heap.Ns env.locals m) (hv : m f = some (.str y t)) (hz : (reprText y).length ≤ sizeLine) (h : ∀ tk n, Q (.str (reprText y) tk) { s with toks := n }) : wpAny (model prog w) A (eval (.FormattedValue (.Name f p) 114 none q) env) Q E s := by
  refine wpAny_FormattedValue_repr (ldL hn hv (by rw [he]; exact hk) (by show env.scope.names.lookup f = _; rw [he]; exact hF) hd ?_)
  exact pyReprObj_str (wpAny_formatField_str (h _ _) (h _ _) hz) hz
theorem part_i {prog : Program} {w : World} {A : Around} {E : Value → Shared → Prop} {env : Env} {s : Shared} {m : Str → Option Value} {i : Int} {t : Tok} {p q : Pos} {Q : Value → Shared → Prop} (hF : sc.names.lookup f = some .local) (hk : sc.kind = .function) (hd : (f == ("__debug__" : Str)) = false) (he : env.scope = sc)
    (hn : s.heap.Ns env.locals m) (hv : m f = some (.int i t)) (hz : i.natAbs.log2 < 1920) (h : ∀ tk n, Q (.str (toString i) tk) { s with toks := n }) : wpAny (model prog w) A (eval (.FormattedValue (.Name f p) (-1) none q) env) Q E s := by
  refine wpAny_FormattedValue_plain (ldL hn hv (by rw [he]; exact hk) (by show env.scope.names.lookup f = _; rw [he]; exact hF) hd ?_)
  exact wpAny_formatField_int hz (h _ _)
theorem app_le {a b : Str} {n m : Nat} (h1 : a.length ≤ n) (h2 : b.length ≤ m) : (a ++ b).length ≤ n + m := by
  have e : (a ++ b).length = a.length + b.length := Array.size_append ..
  omega
/-- f'c{f!r}' of a text -/
theorem msg_cr {y : Str} {t : Tok} {c : Str} {p q p1 p2 : Pos} {k : Nat} (hF : Fld f) (hc : c.length ≤ 1000) (hz : (reprText y).length ≤ 1000) : Msg (.JoinedStr [.Constant (.str c) k p1, .FormattedValue (.Name f p) 114 none q] p2) f (.str y t) (scope1 f) where
  call := fun env a b c' d e => ⟨_, call_eq e rfl⟩
  star := fun env => rfl
  swap := fun _ _ _ _ _ _ => rfl
  text := fun prog w A E env s m Q he hn hv h => by
    have z0 : (Str.empty ++ c).length ≤ 0 + 1000 := app_le (Nat.le_refl _) hc
    have z1 : (Str.empty ++ c ++ reprText y).length ≤ 0 + 1000 + 1000 := app_le z0 hz
    have b0 : (2000 : Nat) ≤ sizeLine := by rw [sizeLine_eq]; decide
    refine wpAny_JoinedStr ?_
    refine wpAny_Constant_str ⟨c, _, rfl, Nat.le_trans z0 (Nat.le_trans (by decide) b0), ?_⟩
    refine part_r (sc := scope1 f) hF.kf rfl hF.dbg he (s := { s with toks := s.toks + 1 }) hn hv (Nat.le_trans hz (Nat.le_trans (by decide) b0)) fun tk n => ⟨_, _, rfl, Nat.le_trans z1 b0, ?_⟩
    exact ⟨Nat.le_trans z1 b0, h _ _ _⟩
/-- f'c{f}' of an int -/
theorem msg_ci {i : Int} {t : Tok} {c : Str} {p q p1 p2 : Pos} {k : Nat} (hF : Fld f) (hc : c.length ≤ 1000) (hz : i.natAbs.log2 < 1920) (hs : (toString i : Str).length ≤ 1000) : Msg (.JoinedStr [.Constant (.str c) k p1, .FormattedValue (.Name f p) (-1) none q] p2) f (.int i t) (scope1 f) where
  call := fun env a b c' d e => ⟨_, call_eq e rfl⟩
  star := fun env => rfl
  swap := fun _ _ _ _ _ _ => rfl
  text := fun prog w A E env s m Q he hn hv h => by
    have z0 : (Str.empty ++ c).length ≤ 0 + 1000 := app_le (Nat.le_refl _) hc
    have z1 : (Str.empty ++ c ++ (toString i : Str)).length ≤ 0 + 1000 + 1000 := app_le z0 hs
    have b0 : (2000 : Nat) ≤ sizeLine := by rw [sizeLine_eq]; decide
    refine wpAny_JoinedStr ?_
    refine wpAny_Constant_str ⟨c, _, rfl, Nat.le_trans z0 (Nat.le_trans (by decide) b0), ?_⟩
    refine part_i (sc := scope1 f) hF.kf rfl hF.dbg he (s := { s with toks := s.toks + 1 }) hn hv hz fun tk n => ⟨_, _, rfl, Nat.le_trans z1 b0, ?_⟩
    exact ⟨Nat.le_trans z1 b0, h _ _ _⟩
/-- f'{f}c' of a text -/
theorem msg_sc {y : Str} {t : Tok} {c : Str} {p q p1 p2 : Pos} {k : Nat} (hF : Fld f) (hc : c.length ≤ 1000) (hz : y.length ≤ 1000) : Msg (.JoinedStr [.FormattedValue (.Name f p) (-1) none q, .Constant (.str c) k p1] p2) f (.str y t) (scope1 f) where
  call := fun env a b c' d e => ⟨_, call_eq e rfl⟩
  star := fun env => rfl
  swap := fun _ _ _ _ _ _ => rfl
  text := fun prog w A E env s m Q he hn hv h => by
    have z0 : (Str.empty ++ y).length ≤ 0 + 1000 := app_le (Nat.le_refl _) hz
    have z1 : (Str.empty ++ y ++ c).length ≤ 0 + 1000 + 1000 := app_le z0 hc
    have b0 : (2000 : Nat) ≤ sizeLine := by rw [sizeLine_eq]; decide
    refine wpAny_JoinedStr ?_
    refine part_s (sc := scope1 f) hF.kf rfl hF.dbg he hn hv (Nat.le_trans hz (Nat.le_trans (by decide) b0)) fun tk n => ⟨_, _, rfl, Nat.le_trans z0 (Nat.le_trans (by decide) b0), ?_⟩
    refine wpAny_Constant_str ⟨c, _, rfl, Nat.le_trans z1 b0, ?_⟩
    exact ⟨Nat.le_trans z1 b0, h _ _ _⟩
end
end Er

namespace L2
open PySem PySem.Spec PyProof.Rows Er
/-- isinstance(e, c), e the error that the suite holds, with a dict of its own -/
def rIsF (K : PySem.W.Frag) (D a : Addr) (cls : Value) (dd : Option Addr) : List V → Hp → VK → Prop := fun xs H Q => cls = .ref D ∧ ∃ (c : V) (cv : Value) (b : Bool), xs = [.ref a, c] ∧ (∀ u, RelV c u → u = cv) ∧ (∀ dx, dd = some dx → ∃ fs, H dx = some (.xd fs)) ∧ PySem.W.kitOne K (.ref D) cv = some b ∧ Q (.bl b) H
theorem call_isF {X : Cx} {a D : Addr} {cls : Value} {dd : Option Addr} {oe : Obj} {pn : List (Addr × Obj)} (C : ExcC X.K D) (hz : Zc cls dd oe) (hf : ∃ vs, oe.data = .fields vs) : CallR (X.suite a ((a, oe) :: pn)) (.builtin "isinstance") (rIsF X.K D a cls dd) := by
  intro pins s σ H xs us Q I r h
  obtain ⟨ecls, c, cv, b, rfl, hcv, hdd, e, q⟩ := h
  subst ecls
  cases r with
  | cons rx rr =>
    cases rr with
    | cons rt rr =>
      cases rr
      cases rx
      have ec := hcv _ rt
      subst ec
      obtain ⟨hget, _⟩ := I.pin (a, oe) (List.mem_append.mpr (.inl List.mem_cons_self))
      obtain ⟨vs, hv⟩ := hf
      have hcl : (PySem.W.clsIn X.K D).isSome = true := by
        obtain ⟨cd, hc, _⟩ := PySem.W.any_some C.hd
        rw [hc]
        rfl
      have J : ∃ od, PySem.W.InstAt s.heap a oe D od := by
        obtain ⟨oc, od, oda, osl⟩ := oe
        obtain ⟨h1, h2⟩ := hz
        dsimp only at h1 h2 hv
        subst h1 h2 hv
        cases od with
        | none => exact ⟨none, hget, rfl, rfl, trivial⟩
        | some dx =>
          obtain ⟨fs, hx⟩ := hdd dx rfl
          have ok : ObjOk X.prog X.w H s.heap dx (.xd fs) := I.hok dx _ hx
          obtain ⟨mA, hns, hr⟩ := ok
          obtain ⟨od, ho, hl⟩ := lookIn_ns hns
          exact ⟨some od, hget, rfl, rfl, ho⟩
      obtain ⟨od, J⟩ := J
      exact PySem.W.kia_one (PySem.W.kitx_exc hcl C.hg C.hk C.hs C.ha C.hn C.ht C.hm) I.kIn J e (fun z => nomatch z) fun tk => ⟨.bl b, H, I.kept (t' := tk) fun _ _ z => z, rfl, q⟩
theorem relO_f1 {v : V} {v' : Value} (r : RelV v v') (f g : Str) : RelO (List.lookup g [(f, v)]) (if g = f then some v' else none) := by
  by_cases hw : g = f
  · rw [if_pos hw, hw]
    have q : List.lookup f [(f, v)] = some v := by simp [List.lookup]
    rw [q]
    exact r
  · rw [if_neg hw]
    have qw : (g == f) = false := by simpa using hw
    have q2 : List.lookup g [(f, v)] = none := by simp [List.lookup, qw]
    rw [q2]
    trivial
section
variable {X : Cx} {C fI : Addr} {nm f : Str} {me : Expr} {p1 p2 a b c d e a' b' c' d' : Pos}
def tMk1 (C : Addr) (f : Str) (me : Expr) (ta : TA) : St → Hp → XK → Prop := fun σ H Q => ta σ H fun vs H1 => ∃ v, vs = [v] ∧ (∀ u, RelV v u → Msg me f u (scope1 f)) ∧ ∀ d, H1 d = none → Q (.ref C) (some d) (upd H1 d (.xd [(f, v)]))
theorem pmk1 {x : Expr} {ta : TA} {p pos : Pos} {k : Nat} (T : Cls1 X.prog X.K X.mg nm C fI (args1 f p1 p2) [supS me a b c d e, keepS f a' b' c' d'] (scope1 f)) (hcdp : (c.endLine == d.line) = true) (hF : Fld f) (noN : PySem.W.findIn X.K (.ref C) f = some none) (hr : Room k X.A) (ha : PA X [x] ta) (hg : Gl X nm) (hdb : (nm == ("__debug__" : Str)) = false)
    (he : starEach (x :: []) X.env = (false, eval x X.env) :: starEach [] X.env := by rfl) (hpl : (backTo pos (starEach [] X.env)).any (·.1) = false := by rfl) :
    L2N.PMk X (.Call (.Name nm p) [x] [] pos) (tMk1 C f me ta) := by
  intro pins s σ H Q I h
  refine wpAny_Call_Name_kw (ld_glob I hg T.gC ?_ hdb)
  refine PySem.W.callWith_K (h₀ := X.base) I.ok.mod.kin T.kC (thn (ha.run pos pins s σ H _ I h) fun us s1 hh => ?_) he hpl
  obtain ⟨vs, H1, I1, r1, v, ev, hM, q1⟩ := hh
  subst ev
  refine ⟨I1.kIn, ?_⟩
  cases r1 with
  | cons rv rn =>
    rename_i v' us'
    cases rn
    show wpAny _ _ (call (.ref C) [v']) _ _ _
    have hlim := I1.nolimit
    obtain ⟨mb, hb1, hb2⟩ := I1.mod.blt
    have hgl := I1.mod.glob.keeps I1.bk
    have hbl := hb1.keeps I1.bk
    obtain ⟨hp, g, dr, tk, os⟩ := s1
    refine wpAny_call (made1 (mb := mb) T I1.kIn hgl hbl hb2 hlim (by have := hr.dp; omega) (hM v' rv) hcdp hF noN fun h' tk' e d M => ?_)
    show L2N.MkP X pins σ Q (.ref e) ⟨h', g, dr, tk', os⟩
    obtain ⟨oe, fv, hoe, hc, hd, hdat, h1, h2⟩ := M.obj
    have hz : L2N.Zn (.ref C) _ oe := ⟨hc, hd, fun vs' e' => by
      rw [hdat] at e'
      cases e'
      exact h2⟩
    have hns := M.ns
    obtain ⟨G', g1, g2⟩ := restrict h' fun b => decide (b ≠ e)
    have gk : ∀ b, b ≠ e → G'.get? b = h'.get? b := fun b hb => g1 b (decide_eq_true hb)
    have ge : G'.get? e = none := g2 e (by simp)
    have old : ∀ b o, hp.get? b = some o → G'.get? b = some o := fun b o q => (gk b (Nat.ne_of_lt (Nat.lt_of_lt_of_le (Heap.lt_size q) M.new))).trans (M.keep b o q)
    have ob : ObjOk X.prog X.w (upd H1 d (.xd [(f, v)])) G' d (.xd [(f, v)]) :=
      ⟨_, hns.at (fun o q => (gk d M.ne).trans q), fun g => relO_f1 rv f g⟩
    have J : Inv X pins σ (upd H1 d (.xd [(f, v)])) ⟨G', g, dr, tk', os⟩ := I1.laid (t' := tk') old M.big ob
    refine ⟨e, oe, fv, ⟨G', g, dr, tk', os⟩, _, .ref C, some d, rfl, J, fun b o q => ?_, ge, hoe, hz, hdat, h1, ?_, rfl, I1.bare, raises_own T.exC T.tyC, q1 d (I1.hok.fresh M.big)⟩
    · by_cases hb : b = e
      · have q' : G'.get? b = some o := q
        rw [hb, ge] at q'
        cases q'
      · exact (gk b hb).symm.trans q
    · rw [upd_ne (Ne.symm M.ne)]
      exact I1.hok.fresh M.new
def tMk0 (C : Addr) : St → Hp → XK → Prop := fun σ H Q => Q (.ref C) none H
theorem pmk0 {p pos : Pos} {k : Nat} (T : Cls1 X.prog X.K X.mg nm C fI (args0 p1) [supS me a b c d e] scope0) (hM : ∀ x : Addr, Msg me "self" (.ref x) scope0) (hcdp : (c.endLine == d.line) = true) (hr : Room k X.A) (hg : Gl X nm) (hdb : (nm == ("__debug__" : Str)) = false) :
    L2N.PMk X (.Call (.Name nm p) [] [] pos) (tMk0 C) := by
  intro pins s σ H Q I h
  refine wpAny_Call_Name_kw (ld_glob I hg T.gC ?_ hdb)
  refine PySem.W.callWith_K0 I.kIn T.kC ?_
  show wpAny _ _ (call (.ref C) []) _ _ _
  have hlim := I.nolimit
  obtain ⟨mb, hb1, hb2⟩ := I.mod.blt
  have hgl := I.mod.glob.keeps I.bk
  have hbl := hb1.keeps I.bk
  obtain ⟨hp, g, dr, tk, os⟩ := s
  refine wpAny_call (made0 (mb := mb) T I.kIn hgl hbl hb2 hlim (by have := hr.dp; omega) hM hcdp fun h' tk' e M => ?_)
  show L2N.MkP X pins σ Q (.ref e) ⟨h', g, dr, tk', os⟩
  obtain ⟨oe, fv, hoe, hc, hd, hdat, h1, h2⟩ := M.obj
  have hz : L2N.Zn (.ref C) _ oe := ⟨hc, hd, fun vs' e' => by
    rw [hdat] at e'
    cases e'
    exact h2⟩
  exact ⟨e, oe, fv, ⟨hp, g, dr, tk, os⟩, H, .ref C, none, rfl, I, M.keep, (by
    cases z : hp.get? e with
    | none => rfl
    | some o => exact absurd (Nat.lt_of_lt_of_le (Heap.lt_size z) M.new) (Nat.lt_irrefl _)), hoe, hz, hdat, h1, I.hok.fresh M.new, rfl, I.bare, raises_own T.exC T.tyC, h⟩
/-- e.f, e the error that the suite holds (at a0; its class cls, its dict dd) -/
def tByF (C : Addr) (a0 : Addr) (cls : Value) (dd : Option Addr) (f : Str) (te : TE) : TE := fun σ H Q => te σ H fun x H1 => x = .ref a0 ∧ cls = .ref C ∧ ∃ (dx : Addr) (v : V), dd = some dx ∧ H1 dx = some (.xd [(f, v)]) ∧ Q v H1
theorem pe_byF {pars : Arguments} {body : List Stmt} {sc : Scope} {a0 : Addr} {oe : Obj} {cls : Value} {dd : Option Addr} {pn : List (Addr × Obj)} {x : Expr} {te : TE} {pos : Pos} (T : Cls1 X.prog X.K X.mg nm C fI pars body sc) (noN : PySem.W.findIn X.K (.ref C) f = some none) (hz : Zc cls dd oe) (hf : ∃ vs, oe.data = .fields vs) (he : PE (X.suite a0 ((a0, oe) :: pn)) x te)
    (hb : attributeBase x f X.env (eval x X.env) = eval x X.env := by rfl) :
    PE (X.suite a0 ((a0, oe) :: pn)) (.Attribute x f pos) (tByF C a0 cls dd f te) := by
  refine ⟨fun pins s σ H Q I h => ?_⟩
  refine attr_of hb (thn (he.run pins s σ H _ I h) fun u s1 hh => ?_)
  obtain ⟨x, H1, I1, rx, ex, ec, dx, v, ed, ea, q⟩ := hh
  subst ex
  obtain rfl : u = Value.ref a0 := rx
  subst ec
  subst ed
  obtain ⟨ha, _⟩ := I1.pin (a0, oe) (List.mem_append_left _ List.mem_cons_self)
  obtain ⟨vs, hd⟩ := hf
  have hx : ObjOk X.prog X.w H1 s1.heap dx (.xd [(f, v)]) := I1.hok dx _ ea
  obtain ⟨mA, hns, hr⟩ := hx
  obtain ⟨od, ho, hl⟩ := lookIn_ns hns
  have l : List.lookup f [(f, v)] = some v := by simp [List.lookup]
  obtain ⟨u, hu, ru⟩ := RelO.some_of (v := v) (o := mA f) (by rw [← l]; exact hr f)
  have J : PySem.W.InstAt s1.heap a0 oe C (some od) := ⟨ha, hz.1, by unfold PySem.W.notCls; rw [hd] <;> rfl, by rw [hz.2]; exact ho⟩
  exact HandSPX.exc_get I1.kIn J T.ga T.gg T.exC (PySem.W.findObj_own T.hdC noN rfl (by rw [hl, hu])) (handed_of ru) ⟨v, H1, I1.tok _, ru, q⟩
end

/-! ### defs that let out errors whose context is None; defs called within an except suite -/
section
variable {P : Program} {w : World} {K : PySem.W.Frag} {mg : Str → Option Value} {base : Heap}
theorem Fun.okN {x qual : Str} {st : Stmt} {f : Addr} {fd : FuncData} {N ps : List Str} {k : Nat} {sp : Sp} (F : Fun K x qual st f fd) (S : FnScope N ps (defScope st)) (len : ∀ vs H Q E, sp vs H Q E → vs.length = ps.length)
    (hbody : ∀ (cdv : Value) (A : Around) (outer : List Env) (s : Shared) (H : Hp) (vs : List V) (Q : VK) (E : XK), Room k (A.deeper (envOfC qual (defScope st) s.heap.objs.size f cdv)) → sp vs H Q E →
      ∃ t, PSs (cxOf (L2N.CX P w) P w K mg base N qual (defScope st) f cdv A outer s H E) (defBody st) t ∧ t { nx := fun _ H' => Q .non H', rt := Q } (start N vs) H) : FnOk P w K mg base (L2N.CX P w) (k + 1) f fd ps sp := by
  obtain ⟨oc, od, kV, doc, pm, an, cdv, ct, osl, rfl, lk, hcd⟩ := F.ex
  exact fn_of lk hcd S len fun A outer s H vs Q E hr hsp => hbody cdv A outer s H vs Q E hr hsp
theorem Fun.okH {CX : CXT} {x qual : Str} {st : Stmt} {f : Addr} {fd : FuncData} {N ps : List Str} {k : Nat} {sp : Sp} (F : Fun K x qual st f fd) (S : FnScope N ps (defScope st)) (len : ∀ vs H Q E, sp vs H Q E → vs.length = ps.length)
    (hbody : ∀ (cdv : Value) (A : Around) (outer : List Env) (s : Shared) (H : Hp) (vs : List V) (Q : VK) (E : XK) (p : Addr × Obj), L2H.Hot1 A p → L2H.RoomH k (A.deeper (envOfC qual (defScope st) s.heap.objs.size f cdv)) → sp vs H Q E →
      ∃ t, PSs (L2H.cxH CX P w K mg base N qual (defScope st) f cdv A outer s H E p) (defBody st) t ∧ t { nx := fun _ H' => Q .non H', rt := Q } (start N vs) H) : L2H.FnH P w K mg base CX (k + 1) f fd ps sp := by
  obtain ⟨oc, od, kV, doc, pm, an, cdv, ct, osl, rfl, lk, hcd⟩ := F.ex
  exact L2H.fn_ofH lk hcd S len fun A outer s H vs Q E p hot hr hsp => hbody cdv A outer s H vs Q E p hot hr hsp
end
section
variable {X : Cx}
/-- of a callee that raises nothing here -/
theorem passN : Passes (L2N.CX X.prog X.w) X E0 := fun _ _ _ _ _ _ _ h => by
  obtain ⟨_, _, _, _, _, _, _, _, _, _, _, _, z⟩ := h
  exact z.elim
theorem takes0N : L2N.Takes X (fun _ _ _ _ => False) := fun _ _ x => by
  obtain ⟨_, _, _, _, _, _, _, _, _, _, _, _, _, _, _, _, z⟩ := x
  exact z.elim
theorem pass0H {E : St → XK} : ∀ σ, PassesAt CX0 X σ (E σ) := fun _ _ _ _ _ _ _ h => h.elim
theorem hot_suite {a : Addr} {oe : Obj} {cls : Value} {d : Option Addr} {pn : List (Addr × Obj)} (hz : L2N.Zn cls d oe) (hf : ∃ vs, oe.data = .fields vs) : L2H.HotC (X.suite a ((a, oe) :: pn)) := by
  obtain ⟨vs, hv⟩ := hf
  exact ⟨(a, oe), ⟨rfl, vs, hv, hz.2.2 vs hv⟩, List.mem_cons_self⟩
theorem room_suite {k : Nat} {a : Addr} {pn : List (Addr × Obj)} (r : Room k X.A) : L2H.RoomH k (X.suite a pn).A := ⟨r.dp, r.un⟩
end
end L2

namespace Hk
open PySem PySem.Spec PyProof.Rows L2 Er
def topS (i : Nat) : Stmt := PySem.Challenge.pw_renamedhorn_k00_names_and_literals.main.body.getD i (.Pass ⟨0, 0, 0, 0⟩)
abbrev s_is_name : Stmt := (topS 8)
abbrev N_is_name : List Str := ["text", "sign"]
theorem sc_is_name : FnScope N_is_name ["text"] (defScope s_is_name) := ⟨rfl, rfl, rfl, by decide +kernel, rfl, by decide +kernel, by decide +kernel⟩
abbrev s_is_literal : Stmt := (topS 9)
abbrev N_is_literal : List Str := ["text"]
theorem sc_is_literal : FnScope N_is_literal ["text"] (defScope s_is_literal) := ⟨rfl, rfl, rfl, by decide +kernel, rfl, by decide +kernel, by decide +kernel⟩
abbrev s_check_literal : Stmt := (topS 10)
abbrev N_check_literal : List Str := ["text"]
theorem sc_check_literal : FnScope N_check_literal ["text"] (defScope s_check_literal) := ⟨rfl, rfl, rfl, by decide +kernel, rfl, by decide +kernel, by decide +kernel⟩
abbrev s_name_of : Stmt := (topS 11)
abbrev N_name_of : List Str := ["literal"]
theorem sc_name_of : FnScope N_name_of ["literal"] (defScope s_name_of) := ⟨rfl, rfl, rfl, by decide +kernel, rfl, by decide +kernel, by decide +kernel⟩
abbrev s_is_positive : Stmt := (topS 12)
abbrev N_is_positive : List Str := ["literal"]
theorem sc_is_positive : FnScope N_is_positive ["literal"] (defScope s_is_positive) := ⟨rfl, rfl, rfl, by decide +kernel, rfl, by decide +kernel, by decide +kernel⟩
abbrev s_negated : Stmt := (topS 13)
abbrev N_negated : List Str := ["literal"]
theorem sc_negated : FnScope N_negated ["literal"] (defScope s_negated) := ⟨rfl, rfl, rfl, by decide +kernel, rfl, by decide +kernel, by decide +kernel⟩
abbrev s__law_source : Stmt := (topS 15)
abbrev N__law_source : List Str := ["_law_script"]
theorem sc__law_source : FnScope N__law_source ["_law_script"] (defScope s__law_source) := ⟨rfl, rfl, rfl, by decide +kernel, rfl, by decide +kernel, by decide +kernel⟩
abbrev s__law_take : Stmt := (topS 16)
abbrev N__law_take : List Str := ["_law_source_here", "_law_many", "_law_mixed", "_law_cell", "_law_value"]
theorem sc__law_take : FnScope N__law_take ["_law_source_here", "_law_many"] (defScope s__law_take) := ⟨rfl, rfl, rfl, by decide +kernel, rfl, by decide +kernel, by decide +kernel⟩
abbrev s__law_word : Stmt := (topS 17)
abbrev N__law_word : List Str := ["_law_source_here", "_law_size", "_law_letters", "_law_signs", "_law_word_here", "_law_number", "_law_k"]
theorem sc__law_word : FnScope N__law_word ["_law_source_here", "_law_size"] (defScope s__law_word) := ⟨rfl, rfl, rfl, by decide +kernel, rfl, by decide +kernel, by decide +kernel⟩
abbrev s__law_flip : Stmt := (topS 18)
abbrev N__law_flip : List Str := ["_law_literal"]
theorem sc__law_flip : FnScope N__law_flip ["_law_literal"] (defScope s__law_flip) := ⟨rfl, rfl, rfl, by decide +kernel, rfl, by decide +kernel, by decide +kernel⟩
abbrev s__law_name : Stmt := (topS 19)
abbrev N__law_name : List Str := ["_law_literal"]
theorem sc__law_name : FnScope N__law_name ["_law_literal"] (defScope s__law_name) := ⟨rfl, rfl, rfl, by decide +kernel, rfl, by decide +kernel, by decide +kernel⟩
abbrev s__law_same : Stmt := (topS 20)
abbrev N__law_same : List Str := ["_law_one", "_law_other", "_law_lists", "_law_k"]
theorem sc__law_same : FnScope N__law_same ["_law_one", "_law_other"] (defScope s__law_same) := ⟨rfl, rfl, rfl, by decide +kernel, rfl, by decide +kernel, by decide +kernel⟩
abbrev s__law_sign : Stmt := (topS 21)
abbrev N__law_sign : List Str := ["_law_source_here", "_law_signs"]
theorem sc__law_sign : FnScope N__law_sign ["_law_source_here"] (defScope s__law_sign) := ⟨rfl, rfl, rfl, by decide +kernel, rfl, by decide +kernel, by decide +kernel⟩
abbrev s__law_string : Stmt := (topS 22)
abbrev N__law_string : List Str := ["_law_source_here", "_law_shape", "_law_dash", "_law_text", "_law_at", "_law_k"]
theorem sc__law_string : FnScope N__law_string ["_law_source_here"] (defScope s__law_string) := ⟨rfl, rfl, rfl, by decide +kernel, rfl, by decide +kernel, by decide +kernel⟩
abbrev s__law_is_name : Stmt := (topS 23)
abbrev N__law_is_name : List Str := ["_law_text", "_law_letters", "_law_sign_here"]
theorem sc__law_is_name : FnScope N__law_is_name ["_law_text"] (defScope s__law_is_name) := ⟨rfl, rfl, rfl, by decide +kernel, rfl, by decide +kernel, by decide +kernel⟩
abbrev s__law_refuses : Stmt := (topS 24)
abbrev N__law_refuses : List Str := ["_law_deed", "_law_text", "error", "_law_right"]
theorem sc__law_refuses : FnScope N__law_refuses ["_law_deed", "_law_text"] (defScope s__law_refuses) := ⟨rfl, rfl, rfl, by decide +kernel, rfl, by decide +kernel, by decide +kernel⟩
abbrev s__law_answers : Stmt := (topS 25)
abbrev N__law_answers : List Str := ["_law_text", "_law_name_here", "_law_deed"]
theorem sc__law_answers : FnScope N__law_answers ["_law_text"] (defScope s__law_answers) := ⟨rfl, rfl, rfl, by decide +kernel, rfl, by decide +kernel, by decide +kernel⟩
abbrev s_law : Stmt := (topS 26)
abbrev N_law : List Str := ["_law_script", "_law_source_here", "_law_k"]
theorem sc_law : FnScope N_law ["_law_script"] (defScope s_law) := ⟨rfl, rfl, rfl, by decide +kernel, rfl, by decide +kernel, by decide +kernel⟩
abbrev me_BadName : PySem.Expr := (.JoinedStr [(.Constant (.str "not a name: ") 0 ⟨7, 27, 7, 39⟩), (.FormattedValue (.Name "text" ⟨7, 40, 7, 44⟩) 114 none ⟨7, 39, 7, 47⟩)] ⟨7, 25, 7, 48⟩)
abbrev ea_BadName : Arguments := (args1 "text" ⟨6, 17, 6, 21⟩ ⟨6, 23, 6, 27⟩)
abbrev eb_BadName : List Stmt := [supS me_BadName ⟨7, 8, 7, 13⟩ ⟨7, 8, 7, 15⟩ ⟨7, 8, 7, 24⟩ ⟨7, 8, 7, 49⟩ ⟨7, 8, 7, 49⟩, keepS "text" ⟨8, 8, 8, 12⟩ ⟨8, 8, 8, 17⟩ ⟨8, 20, 8, 24⟩ ⟨8, 8, 8, 24⟩]
abbrev me_BadLiteral : PySem.Expr := (.JoinedStr [(.Constant (.str "not a literal: ") 0 ⟨12, 27, 12, 42⟩), (.FormattedValue (.Name "text" ⟨12, 43, 12, 47⟩) 114 none ⟨12, 42, 12, 50⟩)] ⟨12, 25, 12, 51⟩)
abbrev ea_BadLiteral : Arguments := (args1 "text" ⟨11, 17, 11, 21⟩ ⟨11, 23, 11, 27⟩)
abbrev eb_BadLiteral : List Stmt := [supS me_BadLiteral ⟨12, 8, 12, 13⟩ ⟨12, 8, 12, 15⟩ ⟨12, 8, 12, 24⟩ ⟨12, 8, 12, 52⟩ ⟨12, 8, 12, 52⟩, keepS "text" ⟨13, 8, 13, 12⟩ ⟨13, 8, 13, 17⟩ ⟨13, 20, 13, 24⟩ ⟨13, 8, 13, 24⟩]
theorem fld_text : Fld "text" := ⟨fun _ _ _ _ _ _ _ _ _ _ _ _ _ _ => rfl, rfl, by decide, rfl, rfl, rfl, by decide⟩
structure Txt (P : Program) (K : PySem.W.Frag) (mg : Str → Option Value) where
  f_is_name : Addr
  d_is_name : FuncData
  F_is_name : Fun K "is_name" "is_name" s_is_name f_is_name d_is_name
  b_is_name : Binds K d_is_name ["text"] []
  g_is_name : mg "is_name" = some (.ref f_is_name)
  f_is_literal : Addr
  d_is_literal : FuncData
  F_is_literal : Fun K "is_literal" "is_literal" s_is_literal f_is_literal d_is_literal
  b_is_literal : Binds K d_is_literal ["text"] []
  g_is_literal : mg "is_literal" = some (.ref f_is_literal)
  f_check_literal : Addr
  d_check_literal : FuncData
  F_check_literal : Fun K "check_literal" "check_literal" s_check_literal f_check_literal d_check_literal
  b_check_literal : Binds K d_check_literal ["text"] []
  g_check_literal : mg "check_literal" = some (.ref f_check_literal)
  f_name_of : Addr
  d_name_of : FuncData
  F_name_of : Fun K "name_of" "name_of" s_name_of f_name_of d_name_of
  b_name_of : Binds K d_name_of ["literal"] []
  g_name_of : mg "name_of" = some (.ref f_name_of)
  f_is_positive : Addr
  d_is_positive : FuncData
  F_is_positive : Fun K "is_positive" "is_positive" s_is_positive f_is_positive d_is_positive
  b_is_positive : Binds K d_is_positive ["literal"] []
  g_is_positive : mg "is_positive" = some (.ref f_is_positive)
  f_negated : Addr
  d_negated : FuncData
  F_negated : Fun K "negated" "negated" s_negated f_negated d_negated
  b_negated : Binds K d_negated ["literal"] []
  g_negated : mg "negated" = some (.ref f_negated)
  f__law_source : Addr
  d__law_source : FuncData
  F__law_source : Fun K "_law_source" "_law_source" s__law_source f__law_source d__law_source
  b__law_source : Binds K d__law_source ["_law_script"] []
  g__law_source : mg "_law_source" = some (.ref f__law_source)
  f__law_take : Addr
  d__law_take : FuncData
  F__law_take : Fun K "_law_take" "_law_take" s__law_take f__law_take d__law_take
  b__law_take : Binds K d__law_take ["_law_source_here", "_law_many"] []
  g__law_take : mg "_law_take" = some (.ref f__law_take)
  f__law_word : Addr
  d__law_word : FuncData
  F__law_word : Fun K "_law_word" "_law_word" s__law_word f__law_word d__law_word
  b__law_word : Binds K d__law_word ["_law_source_here", "_law_size"] []
  g__law_word : mg "_law_word" = some (.ref f__law_word)
  f__law_flip : Addr
  d__law_flip : FuncData
  F__law_flip : Fun K "_law_flip" "_law_flip" s__law_flip f__law_flip d__law_flip
  b__law_flip : Binds K d__law_flip ["_law_literal"] []
  g__law_flip : mg "_law_flip" = some (.ref f__law_flip)
  f__law_name : Addr
  d__law_name : FuncData
  F__law_name : Fun K "_law_name" "_law_name" s__law_name f__law_name d__law_name
  b__law_name : Binds K d__law_name ["_law_literal"] []
  g__law_name : mg "_law_name" = some (.ref f__law_name)
  f__law_same : Addr
  d__law_same : FuncData
  F__law_same : Fun K "_law_same" "_law_same" s__law_same f__law_same d__law_same
  b__law_same : Binds K d__law_same ["_law_one", "_law_other"] []
  g__law_same : mg "_law_same" = some (.ref f__law_same)
  f__law_sign : Addr
  d__law_sign : FuncData
  F__law_sign : Fun K "_law_sign" "_law_sign" s__law_sign f__law_sign d__law_sign
  b__law_sign : Binds K d__law_sign ["_law_source_here"] []
  g__law_sign : mg "_law_sign" = some (.ref f__law_sign)
  f__law_string : Addr
  d__law_string : FuncData
  F__law_string : Fun K "_law_string" "_law_string" s__law_string f__law_string d__law_string
  b__law_string : Binds K d__law_string ["_law_source_here"] []
  g__law_string : mg "_law_string" = some (.ref f__law_string)
  f__law_is_name : Addr
  d__law_is_name : FuncData
  F__law_is_name : Fun K "_law_is_name" "_law_is_name" s__law_is_name f__law_is_name d__law_is_name
  b__law_is_name : Binds K d__law_is_name ["_law_text"] []
  g__law_is_name : mg "_law_is_name" = some (.ref f__law_is_name)
  f__law_refuses : Addr
  d__law_refuses : FuncData
  F__law_refuses : Fun K "_law_refuses" "_law_refuses" s__law_refuses f__law_refuses d__law_refuses
  b__law_refuses : Binds K d__law_refuses ["_law_deed", "_law_text"] []
  g__law_refuses : mg "_law_refuses" = some (.ref f__law_refuses)
  f__law_answers : Addr
  d__law_answers : FuncData
  F__law_answers : Fun K "_law_answers" "_law_answers" s__law_answers f__law_answers d__law_answers
  b__law_answers : Binds K d__law_answers ["_law_text"] []
  g__law_answers : mg "_law_answers" = some (.ref f__law_answers)
  f_law : Addr
  d_law : FuncData
  F_law : Fun K "law" "law" s_law f_law d_law
  b_law : Binds K d_law ["_law_script"] []
  g_law : mg "law" = some (.ref f_law)
  t_LETTERS : Tok
  v_LETTERS : mg "LETTERS" = some (.str "abcdefghijklmnopqrstuvwxyz" t_LETTERS)
  t_LETTERS_AND_DIGITS : Tok
  v_LETTERS_AND_DIGITS : mg "LETTERS_AND_DIGITS" = some (.str "abcdefghijklmnopqrstuvwxyz0123456789" t_LETTERS_AND_DIGITS)
  t_LONGEST_NAME : Tok
  v_LONGEST_NAME : mg "LONGEST_NAME" = some (.int 8 t_LONGEST_NAME)
  C_HornError : Addr
  g_HornError : mg "HornError" = some (.ref C_HornError)
  C_BadName : Addr
  i_BadName : Addr
  E_BadName : Cls1 P K mg "BadName" C_BadName i_BadName ea_BadName eb_BadName (scope1 "text")
  o_BadName : PySem.W.findIn K (.ref C_BadName) "text" = some none
  x_BadName : ExcC K C_BadName
  C_BadLiteral : Addr
  i_BadLiteral : Addr
  E_BadLiteral : Cls1 P K mg "BadLiteral" C_BadLiteral i_BadLiteral ea_BadLiteral eb_BadLiteral (scope1 "text")
  o_BadLiteral : PySem.W.findIn K (.ref C_BadLiteral) "text" = some none
  x_BadLiteral : ExcC K C_BadLiteral
  k_BadName_BadName : ∃ b, PySem.W.kitOne K (.ref C_BadName) (.ref C_BadName) = some b ∧ b = true
  k_BadName_HornError : ∃ b, PySem.W.kitOne K (.ref C_BadName) (.ref C_HornError) = some b ∧ b = true
  k_BadName_ValueError : ∃ b, PySem.W.kitOne K (.ref C_BadName) (.type "ValueError") = some b ∧ b = true
  k_BadLiteral_BadName : ∃ b, PySem.W.kitOne K (.ref C_BadLiteral) (.ref C_BadName) = some b ∧ b = false
  k_BadLiteral_HornError : ∃ b, PySem.W.kitOne K (.ref C_BadLiteral) (.ref C_HornError) = some b ∧ b = true
  k_BadLiteral_ValueError : ∃ b, PySem.W.kitOne K (.ref C_BadLiteral) (.type "ValueError") = some b ∧ b = true
  n_ValueError : mg "ValueError" = none
  n_all : mg "all" = none
  n_bool : mg "bool" = none
  n_int : mg "int" = none
  n_isinstance : mg "isinstance" = none
  n_len : mg "len" = none
  n_list : mg "list" = none
  n_range : mg "range" = none
  n_str : mg "str" = none
  n_super : mg "super" = none
  n_tuple : mg "tuple" = none
/-- the law gets a list of at most 63 ints and hands back True -/
def spLaw (K : PySem.W.Frag) : Sp := fun vs H Q _ => ∃ (a : Addr) (ns : List Int), vs = [.ref a] ∧ SqL K H a (ns.map V.int) ∧ ns.length ≤ 63 ∧ ∀ H', Q (.bl true) H'
section
variable {P : Program} {w : World} {K : PySem.W.Frag} {mg : Str → Option Value} {base : Heap}
/-! ### the source of drawn numbers -/
/-- what stands at b and is not a stands as before -/
def But (a : Addr) (H H' : Hp) : Prop := ∀ b o, b ≠ a → H b = some o → H' b = some o
theorem But.refl {a : Addr} {H : Hp} : But a H H := fun _ _ _ h => h
theorem But.trans {a : Addr} {H H1 H2 : Hp} (x : But a H H1) (y : But a H1 H2) : But a H H2 := fun b o n h => y b o n (x b o n h)
theorem But.upd {a : Addr} {H H1 : Hp} {o : HO} (x : But a H H1) : But a H (upd H1 a o) := fun b u n h => by
  rw [upd_ne n]
  exact x b u n h
theorem But.new {a p : Addr} {H H1 : Hp} {o u : HO} (x : But a H H1) (ha : H1 a = some u) (hp : H1 p = none) : But a H (L2.upd H1 p o) := fun b v n h => by
  rw [upd_ne (ne_of_none (x b v n h) hp)]
  exact x b v n h
theorem But.of {a : Addr} {H H1 : Hp} (x : Same H H1) : But a H H1 := fun b o _ h => x b o h
/-- the script's list at l beside four ints -/
def five (l : Addr) (i x k m : Int) : List V := [.ref l, .int i, .int x, .int k, .int m]
structure SrcL (H : Hp) (a l : Addr) (ns : List Int) : Prop where
  at_ : ∃ i x k m : Int, 0 ≤ i ∧ H a = some (.lst (five l i x k m))
  li : H l = some (.lst (ns.map V.int))
theorem src_ne {H : Hp} {a l : Addr} {ns : List Int} (S : SrcL H a l ns) : l ≠ a := fun e => by
  obtain ⟨i, x, k, m, _, h⟩ := S.at_
  have h2 := S.li
  rw [e, h] at h2
  have h3 := HO.lst.inj (Option.some.inj h2)
  cases ns with
  | nil => exact absurd h3 (by simp [five])
  | cons y r =>
    have h4 := (List.cons.inj h3).1
    cases h4
/-- a source at a -/
def Src (H : Hp) (a : Addr) : Prop := ∃ (l : Addr) (ns : List Int), SrcL H a l ns
theorem Src.keep {H H' : Hp} {a : Addr} (S : Src H a) (k : Same H H') : Src H' a := by
  obtain ⟨l, ns, ⟨i, x, j, m, h0, h⟩, hl⟩ := S
  exact ⟨l, ns, ⟨i, x, j, m, h0, k _ _ h⟩, k _ _ hl⟩
theorem Src.new {H : Hp} {a p : Addr} {o : HO} (S : Src H a) (hp : H p = none) : Src (upd H p o) a := S.keep fun b u h => by
  rw [upd_ne (ne_of_none h hp)]
  exact h
theorem Src.some {H : Hp} {a : Addr} (S : Src H a) : ∃ o, H a = Option.some o := by
  obtain ⟨l, ns, ⟨i, x, k, m, h0, h⟩, hl⟩ := S
  exact ⟨_, h⟩
/-- _law_take(source, many) -/
def spTake : Sp := fun vs H Q _ => ∃ (a : Addr) (many : Int), vs = [.ref a, .int many] ∧ Src H a ∧ 1 ≤ many ∧ many < 2 ^ 64 ∧ ∀ H' r, 0 ≤ r → r < many → Src H' a → But a H H' → Q (.int r) H'
theorem src_upd {H : Hp} {a l : Addr} {ns : List Int} {i x k m : Int} (hl : H l = some (.lst (ns.map V.int))) (n : l ≠ a) (h0 : 0 ≤ i) : Src (upd H a (.lst (five l i x k m))) a :=
  ⟨l, ns, ⟨i, x, k, m, h0, upd_same⟩, by rw [upd_ne n]; exact hl⟩
theorem fmod_lo (x : Int) {m : Int} (h : 1 ≤ m) : 0 ≤ x.fmod m := Int.fmod_nonneg_of_pos x (by omega)
theorem fmod_hi (x : Int) {m : Int} (h : 1 ≤ m) : x.fmod m < m := Int.fmod_lt_of_pos x (by omega)
/-- the second half of _law_take, from a source that stands -/
theorem ok__law_take (T : Txt P K mg) : FnOk P w K mg base CX0 1 T.f__law_take T.d__law_take ["_law_source_here", "_law_many"] spTake := by
  refine T.F__law_take.ok sc__law_take (fun vs H Q E h => ?_) (fun cdv A outer s H vs Q E hr h => ?_)
  · obtain ⟨a, many, rfl, _⟩ := h
    rfl
  · obtain ⟨a, many, rfl, ⟨l, ns, S⟩, h1, h64, q⟩ := h
    have nla := src_ne S
    obtain ⟨⟨i, x, k, m, hi0, h⟩, hl⟩ := S
    refine ⟨_, (Evl.pss_cut (ps_if (pt_cmpR op_eq (pe_ix ix_list (pv 0) pe_int (fun _ _ => rfl)) pe_int (nomark _)) (pss_cons (ps_if (pt_cmpR op_ge (pe_ix ix_list (pv 0) pe_int (fun _ _ => rfl)) (pe_callB call_len_seq (by rfl) T.n_len PySem.boot_len (pa_cons (pe_ix ix_list (pv 0) pe_int (fun _ _ => rfl)) pa_nil)) (nomark _)) (pss_one (ps_ret pe_int)) pss_nil)
      (pss_cons (ps_set (i := 3) sc__law_take.nd rfl (.inl rfl) (pe_callTy call_int1 (by rfl) T.n_int (by decide +kernel) (pa_cons (pe_ix ix_list (pe_ix ix_list (pv 0) pe_int (fun _ _ => rfl)) (pe_ix ix_list (pv 0) pe_int (fun _ _ => rfl)) (fun _ _ => rfl)) pa_nil)))
      (pss_cons (ps_asg (pe_op op_add (pe_ix ix_list (pv 0) pe_int (fun _ _ => rfl)) pe_int) (pg_sub (pv 0) pe_int set_list))
      (pss_cons (ps_asg (pv 3) (pg_sub (pv 0) pe_int set_list))
      (pss_cons (ps_asg pe_int (pg_sub (pv 0) pe_int set_list))
      (pss_cons (ps_asg pe_int (pg_sub (pv 0) pe_int set_list))
      (pss_one (ps_if (pt_cmpR op_ge (pv 3) (pe_op op_pow pe_int pe_int) (nomark _)) (pss_cons (ps_asg pe_int (pg_sub (pv 0) pe_int set_list))
      (pss_one (ps_asg pe_int (pg_sub (pv 0) pe_int set_list)))) pss_nil)))))))) pss_nil)
      (pss_cons (ps_asg (pe_op op_sub (pe_ix ix_list (pv 0) pe_int (fun _ _ => rfl)) pe_int) (pg_sub (pv 0) pe_int set_list))
      (pss_cons (ps_if (pt_cmpR op_eq (pe_ix ix_list (pv 0) pe_int (fun _ _ => rfl)) pe_int (nomark _)) (pss_cons (ps_set (i := 4) sc__law_take.nd rfl (.inl rfl) (pe_op op_modN (pe_callTy call_int1 (by rfl) T.n_int (by decide +kernel) (pa_cons (pe_ix ix_list (pv 0) pe_int (fun _ _ => rfl)) pa_nil)) (pv 1)))
      (pss_cons (ps_asg (pe_op op_fdivW (pe_ix ix_list (pv 0) pe_int (fun _ _ => rfl)) (pv 1)) (pg_sub (pv 0) pe_int set_list))
      (pss_cons (ps_if (pt_cmpR op_eq (pe_ix ix_list (pv 0) pe_int (fun _ _ => rfl)) pe_int (nomark _)) (pss_one (ps_asg pe_int (pg_sub (pv 0) pe_int set_list))) pss_nil)
      (pss_one (ps_ret (pv 4)))))) pss_nil)
      (pss_cons (ps_set (i := 2) sc__law_take.nd rfl (.inl rfl) (pe_op op_modN (pe_callTy call_int1 (by rfl) T.n_int (by decide +kernel) (pa_cons (pe_op op_add (pe_op op_add (pe_op op_mul (pe_ix ix_list (pv 0) pe_int (fun _ _ => rfl)) pe_int) (pe_op op_mul (pe_ix ix_list (pv 0) pe_int (fun _ _ => rfl)) pe_int)) pe_int) pa_nil)) pe_int))
      (pss_cons (ps_set (i := 2) sc__law_take.nd rfl (.inl rfl) (pe_op op_modN (pe_callTy call_int1 (by rfl) T.n_int (by decide +kernel) (pa_cons (pe_op op_add (pe_op op_add (pe_op op_mul (pv 2) pe_int) (pe_op op_mul (pe_ix ix_list (pv 0) pe_int (fun _ _ => rfl)) pe_int)) pe_int) pa_nil)) pe_int))
      (pss_one (ps_ret (pe_op op_modN (pe_callTy call_int1 (by rfl) T.n_int (by decide +kernel) (pa_cons (pv 2) pa_nil)) (pv 1))))))))), ?_⟩
    refine ⟨fun σ' H' => ∃ (cv : Option V) (i x k m : Int), σ' = [some (.ref a), some (.int many), none, cv, none] ∧ 0 ≤ i ∧ H' a = some (.lst (five l i x k m)) ∧ H' l = some (.lst (ns.map V.int)) ∧ But a H H', ?_, ?_⟩
    · refine ⟨.ref a, rfl, a, _, 3, _, rfl, rfl, SqL.of h, atI_nat (j := 3) rfl, rfl, _, rfl, ite2 (fun e => ?_) (fun e => ?_)⟩
      · refine ⟨.ref a, rfl, a, _, 1, _, rfl, rfl, SqL.of h, atI_nat (j := 1) rfl, .ref a, rfl, a, _, 0, _, rfl, rfl, SqL.of h, atI_nat (j := 0) rfl, l, _, rfl, .inl (SqL.of hl), _, _, rfl, rfl, _, rfl, ite2 (fun e1 => ?_) (fun e1 => ?_)⟩
        · exact q H 0 (by omega) (by omega) ⟨l, ns, ⟨⟨i, x, k, m, hi0, h⟩, hl⟩⟩ But.refl
        · have hin : i.toNat < ns.length := by
            have z : ¬ ((ns.map V.int).length : Int) ≤ i := fun z => e1 (decide_eq_true z)
            rw [List.length_map] at z
            omega
          have hg : (ns.map V.int)[i.toNat]? = some (.int ns[i.toNat]) := by
            rw [List.getElem?_map, List.getElem?_eq_getElem hin]
            rfl
          refine ⟨.ref a, rfl, a, _, 0, _, rfl, rfl, SqL.of h, atI_nat (j := 0) rfl, .ref a, rfl, a, _, 1, _, rfl, rfl, SqL.of h, atI_nat (j := 1) rfl, l, _, i, _, rfl, rfl, SqL.of hl, at_of (by omega) hg, .inl ⟨_, rfl, ?_⟩⟩
          refine ⟨.ref a, rfl, a, _, 1, _, rfl, rfl, SqL.of h, atI_nat (j := 1) rfl, _, _, rfl, rfl, .ref a, rfl, a, _, 1, 1, rfl, rfl, h, rfl, ?_⟩
          refine ⟨_, rfl, .ref a, rfl, a, _, 2, 2, rfl, rfl, upd_same, rfl, ?_⟩
          refine ⟨.ref a, rfl, a, _, 3, 3, rfl, rfl, upd_same, rfl, ?_⟩
          refine ⟨.ref a, rfl, a, _, 4, 4, rfl, rfl, upd_same, rfl, ?_⟩
          refine ⟨_, rfl, _, _, rfl, rfl, ⟨by decide, by decide, by decide⟩, _, _, rfl, rfl, _, rfl, ite2 (fun e2 => ?_) (fun e2 => ?_)⟩
          · refine ⟨.ref a, rfl, a, _, 3, 3, rfl, rfl, upd_same, rfl, .ref a, rfl, a, _, 4, 4, rfl, rfl, upd_same, rfl, ?_⟩
            rw [upd_upd, upd_upd, upd_upd, upd_upd, upd_upd]
            exact ⟨_, i + 1, ns[i.toNat], 60, 1, rfl, by omega, upd_same, by rw [upd_ne nla]; exact hl, But.refl.upd⟩
          · rw [upd_upd, upd_upd, upd_upd]
            exact ⟨_, i + 1, ns[i.toNat], 4, 0, rfl, by omega, upd_same, by rw [upd_ne nla]; exact hl, But.refl.upd⟩
      · exact ⟨_, i, x, k, m, rfl, hi0, h, hl, But.refl⟩
    · rintro σ' H0 ⟨cv, i, x, k, m, rfl, hi0, h, hl, bt⟩
      have hl1 : ∀ o, (upd H0 a o) l = some (.lst (ns.map V.int)) := fun o => by
        rw [upd_ne nla]
        exact hl
      refine ⟨.ref a, rfl, a, _, 3, _, rfl, rfl, SqL.of h, atI_nat (j := 3) rfl, _, _, rfl, rfl, .ref a, rfl, a, _, 3, 3, rfl, rfl, h, rfl, ?_⟩
      have h2 : (upd H0 a (.lst ((five l i x k m).set 3 (.int (k - 1))))) a = some (.lst (five l i x (k - 1) m)) := upd_same
      refine ⟨.ref a, rfl, a, _, 4, _, rfl, rfl, SqL.of h2, atI_nat (j := 4) rfl, rfl, _, rfl, ite2 (fun e => ?_) (fun e => ?_)⟩
      · refine ⟨.ref a, rfl, a, _, 2, _, rfl, rfl, SqL.of h2, atI_nat (j := 2) rfl, .inl ⟨_, rfl, _, rfl, _, _, rfl, rfl, by omega, ?_⟩⟩
        refine ⟨.ref a, rfl, a, _, 2, _, rfl, rfl, SqL.of h2, atI_nat (j := 2) rfl, _, rfl, _, _, rfl, rfl, wide_div (b := 64) (by omega) (by omega) (by decide) (by decide), .ref a, rfl, a, _, 2, 2, rfl, rfl, h2, rfl, ?_⟩
        have h3 : ∀ o, (upd (upd H0 a o) a (.lst ((five l i x (k - 1) m).set 2 (.int (x / many))))) a = some (.lst (five l i (x / many) (k - 1) m)) := fun o => upd_same
        refine ⟨.ref a, rfl, a, _, 2, _, rfl, rfl, SqL.of (h3 _), atI_nat (j := 2) rfl, rfl, _, rfl, ite2 (fun e3 => ?_) (fun e3 => ?_)⟩
        · refine ⟨.ref a, rfl, a, _, 3, 3, rfl, rfl, upd_same, rfl, ?_⟩
          rw [upd_upd, upd_upd]
          exact ⟨_, rfl, q _ _ (fmod_lo x h1) (fmod_hi x h1) ⟨l, ns, ⟨⟨i, x / many, 0, m, hi0, upd_same⟩, hl1 _⟩⟩ bt.upd⟩
        · rw [upd_upd]
          exact ⟨_, rfl, q _ _ (fmod_lo x h1) (fmod_hi x h1) ⟨l, ns, ⟨⟨i, x / many, k - 1, m, hi0, upd_same⟩, hl1 _⟩⟩ bt.upd⟩
      · refine ⟨.ref a, rfl, a, _, 2, _, rfl, rfl, SqL.of h2, atI_nat (j := 2) rfl, _, _, rfl, rfl, .inr ⟨by decide, by decide⟩, .ref a, rfl, a, _, 3, _, rfl, rfl, SqL.of h2, atI_nat (j := 3) rfl, _, _, rfl, rfl, .inr ⟨by decide, by decide⟩, _, _, rfl, rfl, _, _, rfl, rfl, .inl ⟨_, rfl, _, _, rfl, rfl, (show (2147483647 : Int) ≠ 0 by decide), ?_⟩⟩
        refine ⟨_, rfl, _, _, rfl, rfl, .inr ⟨by decide, by decide⟩, .ref a, rfl, a, _, 3, _, rfl, rfl, SqL.of h2, atI_nat (j := 3) rfl, _, _, rfl, rfl, .inr ⟨by decide, by decide⟩, _, _, rfl, rfl, _, _, rfl, rfl, .inl ⟨_, rfl, _, _, rfl, rfl, (show (2147483629 : Int) ≠ 0 by decide), ?_⟩⟩
        refine ⟨_, rfl, .inl ⟨_, rfl, _, rfl, _, _, rfl, rfl, by omega, ?_⟩⟩
        exact q _ _ (fmod_lo _ h1) (fmod_hi _ h1) ⟨l, ns, ⟨⟨i, x, k - 1, m, hi0, h2⟩, hl1 _⟩⟩ bt.upd
/-! ### texts -/
/-- a text of at most n signs, each below 128 -/
def Txt8 (n : Nat) (z : Str) : Prop := z.cps.size ≤ n ∧ ∀ c ∈ z.cps.toList, c < 128
theorem Txt8.app {n m : Nat} {x y : Str} (a : Txt8 n x) (b : Txt8 m y) : Txt8 (n + m) (x ++ y) := by
  have e : (x ++ y).cps = x.cps ++ y.cps := rfl
  refine ⟨?_, fun c hc => ?_⟩
  · rw [e, Array.size_append]
    have h1 := a.1
    have h2 := b.1
    omega
  · rw [e, Array.toList_append] at hc
    rcases List.mem_append.mp hc with h | h
    · exact a.2 c h
    · exact b.2 c h
theorem Txt8.mono {n m : Nat} {x : Str} (a : Txt8 n x) (h : n ≤ m) : Txt8 m x := ⟨Nat.le_trans a.1 h, a.2⟩
theorem Txt8.cut {n : Nat} {x : Str} (a : Txt8 n x) (lo hi : Option Int) : Txt8 n (cutS x lo hi) := by
  have e : (cutS x lo hi).cps.toList = (x.cps.toList.drop (HT.sIx x.length 0 lo)).take (HT.sIx x.length x.length hi - HT.sIx x.length 0 lo) := rfl
  refine ⟨?_, fun c hc => ?_⟩
  · rw [← Array.length_toList, e]
    have h1 := List.length_take_le (HT.sIx x.length x.length hi - HT.sIx x.length 0 lo) (x.cps.toList.drop (HT.sIx x.length 0 lo))
    have h2 := List.length_drop (i := HT.sIx x.length 0 lo) (l := x.cps.toList)
    have h3 : x.cps.toList.length ≤ n := by
      rw [Array.length_toList]
      exact a.1
    have h4 : ((x.cps.toList.drop (HT.sIx x.length 0 lo)).take (HT.sIx x.length x.length hi - HT.sIx x.length 0 lo)).length ≤ (x.cps.toList.drop (HT.sIx x.length 0 lo)).length := List.length_take_le' ..
    omega
  · rw [e] at hc
    exact a.2 c (List.mem_of_mem_drop (List.mem_of_mem_take hc))
theorem Txt8.sign {z : Str} {i c : Nat} (h : z.cps[i]? = some c) (a : ∀ c ∈ z.cps.toList, c < 128) : Txt8 1 ⟨#[c]⟩ := by
  refine ⟨Nat.le_refl _, fun d hd => ?_⟩
  have e : d = c := by simpa using hd
  rw [e]
  refine a c ?_
  rw [← Array.getElem?_toList] at h
  exact List.mem_of_getElem? h
theorem line_of {n : Nat} (h : n ≤ 1000) : n ≤ sizeLine := Nat.le_of_lt (small1000 h)
/-- an item of a written text -/
theorem item_of {z : Str} {r n : Int} (h0 : 0 ≤ r) (h : r < n) (hn : (z.cps.size : Int) = n) (ha : ∀ c ∈ z.cps.toList, c < 128) : ∃ c, z.cps[r.toNat]? = some c ∧ r < z.length ∧ Txt8 1 ⟨#[c]⟩ := by
  have hl : r.toNat < z.cps.size := by omega
  have e : z.cps[r.toNat]? = some z.cps[r.toNat] := Array.getElem?_eq_getElem hl
  exact ⟨_, e, by show r < (z.cps.size : Int); omega, Txt8.sign e ha⟩
/-- _law_word(source, size) -/
def spWord : Sp := fun vs H Q _ => ∃ (a : Addr) (n : Int), vs = [.ref a, .int n] ∧ Src H a ∧ 1 ≤ n ∧ n ≤ 8 ∧ ∀ H' z, Txt8 8 z → Src H' a → But a H H' → Q (.str z) H'
theorem p36 : ((36 : Int) ^ (7 : Int).toNat) = 78364164096 := by decide
theorem ok__law_word (T : Txt P K mg) : FnOk P w K mg base CX0 2 T.f__law_word T.d__law_word ["_law_source_here", "_law_size"] spWord := by
  refine T.F__law_word.ok sc__law_word (fun vs H Q E h => ?_) (fun cdv A outer s H vs Q E hr h => ?_)
  · obtain ⟨a, n, rfl, _⟩ := h
    rfl
  · obtain ⟨a, n, rfl, S, h1, h8, q⟩ := h
    refine ⟨_, (pss_cons (ps_set (i := 2) sc__law_word.nd rfl (.inl rfl) pe_str)
      (pss_cons (ps_set (i := 3) sc__law_word.nd rfl (.inl rfl) pe_str)
      (pss_cons (ps_set (i := 4) sc__law_word.nd rfl (.inl rfl) (pe_item_str (pv 2) (pe_call (ok__law_take T) (hr.mono (by decide)) rfl T.g__law_take T.F__law_take.kp T.b__law_take .nil pass0 (pa_cons (pv 0) (pa_cons pe_int pa_nil))) (fun _ _ => rfl)))
      (pss_cons (ps_set (i := 5) sc__law_word.nd rfl (.inl rfl) (pe_call (ok__law_take T) (hr.mono (by decide)) rfl T.g__law_take T.F__law_take.kp T.b__law_take .nil pass0 (pa_cons (pv 0) (pa_cons (pe_op op_pow pe_int pe_int) pa_nil))))
      (pss_cons (ps_for PassesOwn.never rfl (pi_range1 rfl T.n_range (pa_cons (pe_op op_sub (pv 1) pe_int) pa_nil)) (pg_name (i := 6) sc__law_word.nd rfl (.inl rfl)) (pss_cons (ps_set (i := 4) sc__law_word.nd rfl (.inl rfl) (pe_op op_add_str (pv 4) (pe_item_str (pv 3) (pe_op op_modN (pe_callTy call_int1 (by rfl) T.n_int (by decide +kernel) (pa_cons (pv 5) pa_nil)) pe_int) (fun _ _ => rfl))))
      (pss_one (ps_set (i := 5) sc__law_word.nd rfl (.inl rfl) (pe_op op_fdivW (pv 5) pe_int)))))
      (pss_one (ps_ret (pv 4)))))))), ?_⟩
    refine ⟨_, rfl, .ref a, rfl, a, 26, rfl, S, by decide, by decide, fun H1 r r0 r1 S1 B1 => ?_⟩
    obtain ⟨c, hc, hl, tc⟩ := item_of (z := "abcdefghijklmnopqrstuvwxyz") r0 r1 (by decide) (by decide)
    refine ⟨_, _, c, rfl, rfl, r0, by omega, hl, hc, .ref a, rfl, _, _, rfl, rfl, ⟨by decide, by decide, by decide⟩, a, _, rfl, S1, by decide, by decide, fun H2 r2 r20 r21 S2 B2 => ?_⟩
    refine ⟨_, rfl, _, _, rfl, rfl, n - 1, rfl, by omega, by omega, for_range (lo := 0) (n := (n - 1).toNat) (fun i σ H' => ∃ (z : Str) (y : Int) (v : Option V), σ = [some (.ref a), some (.int n), some (.str "abcdefghijklmnopqrstuvwxyz"), some (.str "0123456789abcdefghijklmnopqrstuvwxyz"), some (.str z), some (.int y), v] ∧ Txt8 (i + 1) z ∧ H' = H2) ⟨_, _, _, rfl, tc, rfl⟩ ?_ ?_⟩
    · rintro i σ H' hi ⟨z, y, v, rfl, tz, rfl⟩
      obtain ⟨c2, hc2, hl2, tc2⟩ := item_of (z := "0123456789abcdefghijklmnopqrstuvwxyz") (fmod_lo y (m := 36) (by decide)) (fmod_hi y (m := 36) (by decide)) (by decide) (by decide)
      have f1 := fmod_lo y (m := 36) (by decide)
      have f2 := fmod_hi y (m := 36) (by decide)
      refine ⟨_, rfl, _, rfl, _, rfl, .inl ⟨_, rfl, _, _, rfl, rfl, (show (36 : Int) ≠ 0 by decide), _, _, c2, rfl, rfl, f1, by omega, hl2, hc2, _, _, rfl, rfl, line_of (by have h1 := tz.1; have h2 : z.length = z.cps.size := rfl; show z.length + 1 ≤ 1000; omega), ?_⟩⟩
      refine ⟨_, rfl, _, _, rfl, rfl, wide_div (b := 64) (by decide) (by decide) (by decide) (by decide), ?_⟩
      exact ⟨_, _, _, rfl, tz.app tc2, rfl⟩
    · rintro σ H' ⟨z, y, v, rfl, tz, rfl⟩
      exact ⟨_, rfl, q _ z (tz.mono (by omega)) S2 (B1.trans B2)⟩
/-- _law_sign(source) -/
def spSign : Sp := fun vs H Q _ => ∃ (a : Addr), vs = [.ref a] ∧ Src H a ∧ ∀ H' z, Txt8 1 z → Src H' a → But a H H' → Q (.str z) H'
theorem ok__law_sign (T : Txt P K mg) : FnOk P w K mg base CX0 2 T.f__law_sign T.d__law_sign ["_law_source_here"] spSign := by
  refine T.F__law_sign.ok sc__law_sign (fun vs H Q E h => ?_) (fun cdv A outer s H vs Q E hr h => ?_)
  · obtain ⟨a, rfl, _⟩ := h
    rfl
  · obtain ⟨a, rfl, S, q⟩ := h
    refine ⟨_, (pss_cons (ps_set (i := 1) sc__law_sign.nd rfl (.inl rfl) pe_str)
      (pss_cons (ps_set (i := 1) sc__law_sign.nd rfl (.inl rfl) (pe_op op_add_str (pv 1) pe_str))
      (pss_one (ps_ret (pe_item_str (pv 1) (pe_call (ok__law_take T) (hr.mono (by decide)) rfl T.g__law_take T.F__law_take.kp T.b__law_take .nil pass0 (pa_cons (pv 0) (pa_cons pe_int pa_nil))) (fun _ _ => rfl)))))), ?_⟩
    refine ⟨_, rfl, _, _, rfl, rfl, line_of (by decide), _, rfl, .ref a, rfl, a, 95, rfl, S, by decide, by decide, fun H1 r r0 r1 S1 B1 => ?_⟩
    obtain ⟨c, hc, hl, tc⟩ := item_of (z := (" !\"#$&'()*+,-./0123456789:;<=>?@ABCDEFGHIJKLMNOPQRSTUVWXYZ[\\]^_`" ++ "abcdefghijklmnopqrstuvwxyz{|}~\n" : Str)) r0 r1 (by decide) (by decide)
    exact ⟨_, _, c, rfl, rfl, r0, by omega, hl, hc, q _ _ tc S1 B1⟩
/-- _law_source(script) -/
def spSource (K : PySem.W.Frag) : Sp := fun vs H Q _ => ∃ (a : Addr) (ns : List Int), vs = [.ref a] ∧ SqL K H a (ns.map V.int) ∧ ∀ H' p, Src H' p → H p = none → Same H H' → Q (.ref p) H'
theorem ok__law_source (T : Txt P K mg) : FnOk P w K mg base CX0 1 T.f__law_source T.d__law_source ["_law_script"] (spSource K) := by
  refine T.F__law_source.ok sc__law_source (fun vs H Q E h => ?_) (fun cdv A outer s H vs Q E hr h => ?_)
  · obtain ⟨a, ns, rfl, _⟩ := h
    rfl
  · obtain ⟨a, ns, rfl, S, q⟩ := h
    refine ⟨_, (pss_one (ps_ret (pe_lst (pa_cons (pe_callTy call_list_of (by rfl) T.n_list (by decide +kernel) (pa_cons (pv 0) pa_nil)) (pa_cons pe_int (pa_cons pe_int (pa_cons pe_int (pa_cons pe_int pa_nil)))))))), ?_⟩
    refine ⟨_, rfl, a, _, rfl, .inl S, fun l nl => ⟨(by show 5 ≤ sizeLine; decide), fun p np => ?_⟩⟩
    have lp : l ≠ p := fun e => by
      rw [e, upd_same] at np
      cases np
    have np0 : H p = none := by
      rw [upd_ne lp.symm] at np
      exact np
    refine q _ p ⟨l, ns, ⟨⟨0, 0, 0, 0, by decide, upd_same⟩, ?_⟩⟩ np0 fun b o e => ?_
    · rw [upd_ne lp, upd_same]
    · rw [upd_ne (ne_of_none e np0), upd_ne (ne_of_none e nl)]
      exact e
/-! ### answers of pure defs -/
def isBl : V → Bool
  | .bl _ => true
  | _ => false
def isIn : V → Bool
  | .int _ => true
  | _ => false
def isSt : V → Bool
  | .str _ => true
  | _ => false
def flat4 : V → Bool
  | .non => true
  | .bl _ => true
  | .int _ => true
  | .str _ => true
  | _ => false
theorem kit_flat {K : PySem.W.Frag} {x : V} (h : flat4 x = true) : ∃ t : String, (∀ H, TyX K H x (.type t)) ∧ kitB t "bool" = some (isBl x) ∧ kitB t "int" = some (isBl x || isIn x) ∧ kitB t "str" = some (isSt x) ∧ kitB t "list" = some false ∧ kitB t "tuple" = some false := by
  cases x with
  | non => exact ⟨"NoneType", fun _ => .base .non, by decide +kernel, by decide +kernel, by decide +kernel, by decide +kernel, by decide +kernel⟩
  | bl b => exact ⟨"bool", fun _ => .base (.bl b), (show kitB "bool" "bool" = some true by decide +kernel), (show kitB "bool" "int" = some true by decide +kernel), (show kitB "bool" "str" = some false by decide +kernel), (show kitB "bool" "list" = some false by decide +kernel), (show kitB "bool" "tuple" = some false by decide +kernel)⟩
  | int i => exact ⟨"int", fun _ => .base (.int i), (show kitB "int" "bool" = some false by decide +kernel), (show kitB "int" "int" = some true by decide +kernel), (show kitB "int" "str" = some false by decide +kernel), (show kitB "int" "list" = some false by decide +kernel), (show kitB "int" "tuple" = some false by decide +kernel)⟩
  | str z => exact ⟨"str", fun _ => .base (.str z), (show kitB "str" "bool" = some false by decide +kernel), (show kitB "str" "int" = some false by decide +kernel), (show kitB "str" "str" = some true by decide +kernel), (show kitB "str" "list" = some false by decide +kernel), (show kitB "str" "tuple" = some false by decide +kernel)⟩
  | byt b => cases h
  | flt b => cases h
  | ref a => cases h
  | ty n => cases h
open Evl in
theorem ev_isi {σ : L2.St} {H : Hp} {ta : TE} {x : V} {t c : String} {b : Bool} (h : Ev ta σ H x) (ht : ∀ H, TyX K H x (.type t)) (hk : kitB t c = some b) : Ev (tCB (rIsi K) (tCons ta (tCons (tC (.ty c)) tNil))) σ H (.bl b) :=
  ev_cb (ea_cons h (ea_cons ev_c ea_nil)) fun H1 _ Q q => ⟨x, .ty c, .type t, .type c, b, rfl, .ty c, ht H1, kit_ty hk, q H1 (Ex.refl H1)⟩
/-- _law_same(one, other) of two flat things -/
def spSame : Sp := fun vs H Q _ => ∃ x y, vs = [x, y] ∧ flat4 x = true ∧ flat4 y = true ∧ ∀ H', Evl.Ex H H' → Q (.bl (decide (x = y))) H'
theorem ne_bl {x y : V} (h : isBl x = true) (h2 : isBl y = false) : x ≠ y := fun e => by
  rw [e, h2] at h
  cases h
theorem scal_flat {x y : V} (hx : flat4 x = true) (hy : flat4 y = true) (h : (isBl x = true ∧ isBl y = true) ∨ (isIn x = true ∧ isIn y = true) ∨ (isSt x = true ∧ isSt y = true)) : scal x y = true := by
  cases x <;> cases y <;> first | rfl | (simp [isBl, isIn, isSt] at h) | cases hx | cases hy
theorem non_of {x : V} (h : flat4 x = true) (h1 : isBl x = false) (h2 : isIn x = false) (h3 : isSt x = false) : x = .non := by
  cases x with
  | non => rfl
  | bl b => cases h1
  | int i => cases h2
  | str z => cases h3
  | byt b => cases h
  | flt b => cases h
  | ref a => cases h
  | ty n => cases h
open Evl in
theorem ok__law_same (T : Txt P K mg) : FnOk P w K mg base CX0 1 T.f__law_same T.d__law_same ["_law_one", "_law_other"] spSame := by
  refine T.F__law_same.ok sc__law_same (fun vs H Q E h => ?_) (fun cdv A outer s H vs Q E hr h => ?_)
  · obtain ⟨x, y, rfl, _⟩ := h
    rfl
  · obtain ⟨x, y, rfl, hx, hy, q⟩ := h
    obtain ⟨tx, kx, bx, ix, sx, lx, ux⟩ := kit_flat (K := K) hx
    obtain ⟨ty, ky, by_, iy, sy, ly, uy⟩ := kit_flat (K := K) hy
    have vx : ∀ (σ : L2.St) (H : Hp), σ[0]? = some (some x) → Ev (tVar 0) σ H x := fun σ H e => ev_var e
    have vy : ∀ (σ : L2.St) (H : Hp), σ[1]? = some (some y) → Ev (tVar 1) σ H y := fun σ H e => ev_var e
    refine ⟨_, (pss_cons (ps_if (PW.pt (pw_or (pt_val (pe_callB call_isi (by rfl) T.n_isinstance (by decide +kernel) (pa_cons (pv 0) (pa_cons (pe_bltn (v := .ty "bool") (u := .type "bool") (by rfl) T.n_bool (by decide +kernel) rfl) pa_nil)))) (pw_or1 (pt_val (pe_callB call_isi (by rfl) T.n_isinstance (by decide +kernel) (pa_cons (pv 1) (pa_cons (pe_bltn (v := .ty "bool") (u := .type "bool") (by rfl) T.n_bool (by decide +kernel) rfl) pa_nil))))))) (pss_one (ps_ret (pe_and (pe_callB call_isi (by rfl) T.n_isinstance (by decide +kernel) (pa_cons (pv 0) (pa_cons (pe_bltn (v := .ty "bool") (u := .type "bool") (by rfl) T.n_bool (by decide +kernel) rfl) pa_nil))) (pe_and (pe_callB call_isi (by rfl) T.n_isinstance (by decide +kernel) (pa_cons (pv 1) (pa_cons (pe_bltn (v := .ty "bool") (u := .type "bool") (by rfl) T.n_bool (by decide +kernel) rfl) pa_nil))) (pe_one (pe_cmpR op_eq (pv 0) (pv 1) (nomark _))))))) pss_nil)
      (pss_cons (ps_if (PW.pt (pw_or (pt_val (pe_callB call_isi (by rfl) T.n_isinstance (by decide +kernel) (pa_cons (pv 0) (pa_cons (pe_bltn (v := .ty "int") (u := .type "int") (by rfl) T.n_int (by decide +kernel) rfl) pa_nil)))) (pw_or1 (pt_val (pe_callB call_isi (by rfl) T.n_isinstance (by decide +kernel) (pa_cons (pv 1) (pa_cons (pe_bltn (v := .ty "int") (u := .type "int") (by rfl) T.n_int (by decide +kernel) rfl) pa_nil))))))) (pss_one (ps_ret (pe_and (pe_callB call_isi (by rfl) T.n_isinstance (by decide +kernel) (pa_cons (pv 0) (pa_cons (pe_bltn (v := .ty "int") (u := .type "int") (by rfl) T.n_int (by decide +kernel) rfl) pa_nil))) (pe_and (pe_callB call_isi (by rfl) T.n_isinstance (by decide +kernel) (pa_cons (pv 1) (pa_cons (pe_bltn (v := .ty "int") (u := .type "int") (by rfl) T.n_int (by decide +kernel) rfl) pa_nil))) (pe_one (pe_cmpR op_eq (pv 0) (pv 1) (nomark _))))))) pss_nil)
      (pss_cons (ps_if (PW.pt (pw_or (pt_val (pe_callB call_isi (by rfl) T.n_isinstance (by decide +kernel) (pa_cons (pv 0) (pa_cons (pe_bltn (v := .ty "str") (u := .type "str") (by rfl) T.n_str (by decide +kernel) rfl) pa_nil)))) (pw_or1 (pt_val (pe_callB call_isi (by rfl) T.n_isinstance (by decide +kernel) (pa_cons (pv 1) (pa_cons (pe_bltn (v := .ty "str") (u := .type "str") (by rfl) T.n_str (by decide +kernel) rfl) pa_nil))))))) (pss_one (ps_ret (pe_and (pe_callB call_isi (by rfl) T.n_isinstance (by decide +kernel) (pa_cons (pv 0) (pa_cons (pe_bltn (v := .ty "str") (u := .type "str") (by rfl) T.n_str (by decide +kernel) rfl) pa_nil))) (pe_and (pe_callB call_isi (by rfl) T.n_isinstance (by decide +kernel) (pa_cons (pv 1) (pa_cons (pe_bltn (v := .ty "str") (u := .type "str") (by rfl) T.n_str (by decide +kernel) rfl) pa_nil))) (pe_one (pe_cmpR op_eq (pv 0) (pv 1) (nomark _))))))) pss_nil)
      (pss_cons (ps_set (i := 2) sc__law_same.nd rfl (.inl rfl) (pe_and (pe_callB call_isi (by rfl) T.n_isinstance (by decide +kernel) (pa_cons (pv 0) (pa_cons (pe_bltn (v := .ty "list") (u := .type "list") (by rfl) T.n_list (by decide +kernel) rfl) pa_nil))) (pe_one (pe_callB call_isi (by rfl) T.n_isinstance (by decide +kernel) (pa_cons (pv 1) (pa_cons (pe_bltn (v := .ty "list") (u := .type "list") (by rfl) T.n_list (by decide +kernel) rfl) pa_nil))))))
      (pss_cons (ps_if (PW.pt (pw_and (pt_not (pt_val (pv 2))) (pw_and1 (pt_not (PW.pt (pw_and (pt_val (pe_callB call_isi (by rfl) T.n_isinstance (by decide +kernel) (pa_cons (pv 0) (pa_cons (pe_bltn (v := .ty "tuple") (u := .type "tuple") (by rfl) T.n_tuple (by decide +kernel) rfl) pa_nil)))) (pw_and1 (pt_val (pe_callB call_isi (by rfl) T.n_isinstance (by decide +kernel) (pa_cons (pv 1) (pa_cons (pe_bltn (v := .ty "tuple") (u := .type "tuple") (by rfl) T.n_tuple (by decide +kernel) rfl) pa_nil))))))))))) (pss_one (ps_ret (pe_and (pe_cmpR op_isN (pv 0) pe_non (nomark _)) (pe_one (pe_cmpR op_isN (pv 1) pe_non (nomark _)))))) pss_nil)
      (pss_one ps_never)))))), ?_⟩
    have cmp : ∀ (σ : L2.St) (H1 : Hp), σ[0]? = some (some x) → σ[1]? = some (some y) → scal x y = true → Ev (tOp rEq (tVar 0) (tVar 1)) σ H1 (.bl (decide (x = y))) := fun σ H1 e0 e1 hs => ev_op (ev_var e0) (ev_var e1) (rv_eq hs)
    refine q_when (et_or (et_B (ev_isi (vx _ _ rfl) kx bx)) (fun _ => et_B (ev_isi (vy _ _ rfl) ky by_))) (fun hb H1 e1 => ?_) (fun hb H1 e1 => ?_)
    · refine s_ret (v := .bl (decide (x = y))) (ev_is (ev_andV (ev_isi (vx _ _ rfl) kx bx) (fun h1 => ev_andV (b := decide (x = y)) (ev_isi (vy _ _ rfl) ky by_) (fun h2 => cmp _ _ rfl rfl (scal_flat hx hy (.inl ⟨h1, h2⟩))))) ?_) (fun H2 e2 => q H2 (e1.trans e2))
      cases h1 : isBl x with
      | true =>
        cases h2 : isBl y with
        | true => rfl
        | false => rw [decide_eq_false (ne_bl h1 h2)]; rfl
      | false =>
        rw [h1] at hb
        have h2 : isBl y = true := hb
        rw [decide_eq_false (ne_bl h2 h1).symm]
        rfl
    · have nb : isBl x = false ∧ isBl y = false := by simpa using hb
      rw [nb.1] at ix
      rw [nb.2] at iy
      refine q_when (et_or (et_B (ev_isi (vx _ _ rfl) kx ix)) (fun _ => et_B (ev_isi (vy _ _ rfl) ky iy))) (fun hi H2 e2 => ?_) (fun hi H2 e2 => ?_)
      · refine s_ret (v := .bl (decide (x = y))) (ev_is (ev_andV (ev_isi (vx _ _ rfl) kx ix) (fun h1 => ev_andV (b := decide (x = y)) (ev_isi (vy _ _ rfl) ky iy) (fun h2 => cmp _ _ rfl rfl (scal_flat hx hy (.inr (.inl ⟨h1, h2⟩)))))) ?_) (fun H3 e3 => q H3 ((e1.trans e2).trans e3))
        cases x <;> cases y <;> simp_all [isIn, isBl]
      · have ni : isIn x = false ∧ isIn y = false := by simpa using hi
        refine q_when (et_or (et_B (ev_isi (vx _ _ rfl) kx sx)) (fun _ => et_B (ev_isi (vy _ _ rfl) ky sy))) (fun hs H3 e3 => ?_) (fun hs H3 e3 => ?_)
        · refine s_ret (v := .bl (decide (x = y))) (ev_is (ev_andV (ev_isi (vx _ _ rfl) kx sx) (fun h1 => ev_andV (b := decide (x = y)) (ev_isi (vy _ _ rfl) ky sy) (fun h2 => cmp _ _ rfl rfl (scal_flat hx hy (.inr (.inr ⟨h1, h2⟩)))))) ?_) (fun H4 e4 => q H4 (((e1.trans e2).trans e3).trans e4))
          cases x <;> cases y <;> simp_all [isSt, isBl]
        · have ns : isSt x = false ∧ isSt y = false := by simpa using hs
          have xn : x = .non := non_of hx nb.1 ni.1 ns.1
          have yn : y = .non := non_of hy nb.2 ni.2 ns.2
          refine q_asg (v := .bl false) (ev_is (ev_andV (b := false) (ev_isi (vx _ _ rfl) kx lx) (fun _ => ev_isi (vy _ _ rfl) ky ly)) rfl) (fun H4 e4 => ?_)
          refine q_when (b := true) (et_is (et_and (et_not (et_B (ev_var rfl))) (fun _ => et_not (et_and (b := false) (et_B (ev_isi (vx _ _ rfl) kx ux)) (fun _ => et_B (ev_isi (vy _ _ rfl) ky uy))))) rfl) (fun _ H5 e5 => ?_) (fun hf => by cases hf)
          refine s_ret (v := .bl true) (ev_is (ev_andV (a := true) (b := true) (ev_op (vx _ _ rfl) ev_c (fun H6 _ Q' q' => ⟨rfl, ?_⟩)) (fun _ => ev_op (vy _ _ rfl) ev_c (fun H6 _ Q' q' => ⟨rfl, ?_⟩))) rfl) (fun H6 e6 => ?_)
          · rw [xn]
            exact q' H6 (Ex.refl H6)
          · rw [yn]
            exact q' H6 (Ex.refl H6)
          · have z := q H6 (((((e1.trans e2).trans e3).trans e4).trans e5).trans e6)
            rw [xn, yn] at z
            exact z
open Evl in
theorem okH__law_same (T : Txt P K mg) : L2H.FnH P w K mg base CX0 1 T.f__law_same T.d__law_same ["_law_one", "_law_other"] spSame := by
  refine T.F__law_same.okH sc__law_same (fun vs H Q E h => ?_) (fun cdv A outer s H vs Q E p hot hr h => ?_)
  · obtain ⟨x, y, rfl, _⟩ := h
    rfl
  · obtain ⟨x, y, rfl, hx, hy, q⟩ := h
    obtain ⟨tx, kx, bx, ix, sx, lx, ux⟩ := kit_flat (K := K) hx
    obtain ⟨ty, ky, by_, iy, sy, ly, uy⟩ := kit_flat (K := K) hy
    have vx : ∀ (σ : L2.St) (H : Hp), σ[0]? = some (some x) → Ev (tVar 0) σ H x := fun σ H e => ev_var e
    have vy : ∀ (σ : L2.St) (H : Hp), σ[1]? = some (some y) → Ev (tVar 1) σ H y := fun σ H e => ev_var e
    refine ⟨_, (pss_cons (ps_if (PW.pt (pw_or (pt_val (pe_callB call_isi (by rfl) T.n_isinstance (by decide +kernel) (pa_cons (pv 0) (pa_cons (pe_bltn (v := .ty "bool") (u := .type "bool") (by rfl) T.n_bool (by decide +kernel) rfl) pa_nil)))) (pw_or1 (pt_val (pe_callB call_isi (by rfl) T.n_isinstance (by decide +kernel) (pa_cons (pv 1) (pa_cons (pe_bltn (v := .ty "bool") (u := .type "bool") (by rfl) T.n_bool (by decide +kernel) rfl) pa_nil))))))) (pss_one (ps_ret (pe_and (pe_callB call_isi (by rfl) T.n_isinstance (by decide +kernel) (pa_cons (pv 0) (pa_cons (pe_bltn (v := .ty "bool") (u := .type "bool") (by rfl) T.n_bool (by decide +kernel) rfl) pa_nil))) (pe_and (pe_callB call_isi (by rfl) T.n_isinstance (by decide +kernel) (pa_cons (pv 1) (pa_cons (pe_bltn (v := .ty "bool") (u := .type "bool") (by rfl) T.n_bool (by decide +kernel) rfl) pa_nil))) (pe_one (pe_cmpR op_eq (pv 0) (pv 1) (nomark _))))))) pss_nil)
      (pss_cons (ps_if (PW.pt (pw_or (pt_val (pe_callB call_isi (by rfl) T.n_isinstance (by decide +kernel) (pa_cons (pv 0) (pa_cons (pe_bltn (v := .ty "int") (u := .type "int") (by rfl) T.n_int (by decide +kernel) rfl) pa_nil)))) (pw_or1 (pt_val (pe_callB call_isi (by rfl) T.n_isinstance (by decide +kernel) (pa_cons (pv 1) (pa_cons (pe_bltn (v := .ty "int") (u := .type "int") (by rfl) T.n_int (by decide +kernel) rfl) pa_nil))))))) (pss_one (ps_ret (pe_and (pe_callB call_isi (by rfl) T.n_isinstance (by decide +kernel) (pa_cons (pv 0) (pa_cons (pe_bltn (v := .ty "int") (u := .type "int") (by rfl) T.n_int (by decide +kernel) rfl) pa_nil))) (pe_and (pe_callB call_isi (by rfl) T.n_isinstance (by decide +kernel) (pa_cons (pv 1) (pa_cons (pe_bltn (v := .ty "int") (u := .type "int") (by rfl) T.n_int (by decide +kernel) rfl) pa_nil))) (pe_one (pe_cmpR op_eq (pv 0) (pv 1) (nomark _))))))) pss_nil)
      (pss_cons (ps_if (PW.pt (pw_or (pt_val (pe_callB call_isi (by rfl) T.n_isinstance (by decide +kernel) (pa_cons (pv 0) (pa_cons (pe_bltn (v := .ty "str") (u := .type "str") (by rfl) T.n_str (by decide +kernel) rfl) pa_nil)))) (pw_or1 (pt_val (pe_callB call_isi (by rfl) T.n_isinstance (by decide +kernel) (pa_cons (pv 1) (pa_cons (pe_bltn (v := .ty "str") (u := .type "str") (by rfl) T.n_str (by decide +kernel) rfl) pa_nil))))))) (pss_one (ps_ret (pe_and (pe_callB call_isi (by rfl) T.n_isinstance (by decide +kernel) (pa_cons (pv 0) (pa_cons (pe_bltn (v := .ty "str") (u := .type "str") (by rfl) T.n_str (by decide +kernel) rfl) pa_nil))) (pe_and (pe_callB call_isi (by rfl) T.n_isinstance (by decide +kernel) (pa_cons (pv 1) (pa_cons (pe_bltn (v := .ty "str") (u := .type "str") (by rfl) T.n_str (by decide +kernel) rfl) pa_nil))) (pe_one (pe_cmpR op_eq (pv 0) (pv 1) (nomark _))))))) pss_nil)
      (pss_cons (ps_set (i := 2) sc__law_same.nd rfl (.inl rfl) (pe_and (pe_callB call_isi (by rfl) T.n_isinstance (by decide +kernel) (pa_cons (pv 0) (pa_cons (pe_bltn (v := .ty "list") (u := .type "list") (by rfl) T.n_list (by decide +kernel) rfl) pa_nil))) (pe_one (pe_callB call_isi (by rfl) T.n_isinstance (by decide +kernel) (pa_cons (pv 1) (pa_cons (pe_bltn (v := .ty "list") (u := .type "list") (by rfl) T.n_list (by decide +kernel) rfl) pa_nil))))))
      (pss_cons (ps_if (PW.pt (pw_and (pt_not (pt_val (pv 2))) (pw_and1 (pt_not (PW.pt (pw_and (pt_val (pe_callB call_isi (by rfl) T.n_isinstance (by decide +kernel) (pa_cons (pv 0) (pa_cons (pe_bltn (v := .ty "tuple") (u := .type "tuple") (by rfl) T.n_tuple (by decide +kernel) rfl) pa_nil)))) (pw_and1 (pt_val (pe_callB call_isi (by rfl) T.n_isinstance (by decide +kernel) (pa_cons (pv 1) (pa_cons (pe_bltn (v := .ty "tuple") (u := .type "tuple") (by rfl) T.n_tuple (by decide +kernel) rfl) pa_nil))))))))))) (pss_one (ps_ret (pe_and (pe_cmpR op_isN (pv 0) pe_non (nomark _)) (pe_one (pe_cmpR op_isN (pv 1) pe_non (nomark _)))))) pss_nil)
      (pss_one ps_never)))))), ?_⟩
    have cmp : ∀ (σ : L2.St) (H1 : Hp), σ[0]? = some (some x) → σ[1]? = some (some y) → scal x y = true → Ev (tOp rEq (tVar 0) (tVar 1)) σ H1 (.bl (decide (x = y))) := fun σ H1 e0 e1 hs => ev_op (ev_var e0) (ev_var e1) (rv_eq hs)
    refine q_when (et_or (et_B (ev_isi (vx _ _ rfl) kx bx)) (fun _ => et_B (ev_isi (vy _ _ rfl) ky by_))) (fun hb H1 e1 => ?_) (fun hb H1 e1 => ?_)
    · refine s_ret (v := .bl (decide (x = y))) (ev_is (ev_andV (ev_isi (vx _ _ rfl) kx bx) (fun h1 => ev_andV (b := decide (x = y)) (ev_isi (vy _ _ rfl) ky by_) (fun h2 => cmp _ _ rfl rfl (scal_flat hx hy (.inl ⟨h1, h2⟩))))) ?_) (fun H2 e2 => q H2 (e1.trans e2))
      cases h1 : isBl x with
      | true =>
        cases h2 : isBl y with
        | true => rfl
        | false => rw [decide_eq_false (ne_bl h1 h2)]; rfl
      | false =>
        rw [h1] at hb
        have h2 : isBl y = true := hb
        rw [decide_eq_false (ne_bl h2 h1).symm]
        rfl
    · have nb : isBl x = false ∧ isBl y = false := by simpa using hb
      rw [nb.1] at ix
      rw [nb.2] at iy
      refine q_when (et_or (et_B (ev_isi (vx _ _ rfl) kx ix)) (fun _ => et_B (ev_isi (vy _ _ rfl) ky iy))) (fun hi H2 e2 => ?_) (fun hi H2 e2 => ?_)
      · refine s_ret (v := .bl (decide (x = y))) (ev_is (ev_andV (ev_isi (vx _ _ rfl) kx ix) (fun h1 => ev_andV (b := decide (x = y)) (ev_isi (vy _ _ rfl) ky iy) (fun h2 => cmp _ _ rfl rfl (scal_flat hx hy (.inr (.inl ⟨h1, h2⟩)))))) ?_) (fun H3 e3 => q H3 ((e1.trans e2).trans e3))
        cases x <;> cases y <;> simp_all [isIn, isBl]
      · have ni : isIn x = false ∧ isIn y = false := by simpa using hi
        refine q_when (et_or (et_B (ev_isi (vx _ _ rfl) kx sx)) (fun _ => et_B (ev_isi (vy _ _ rfl) ky sy))) (fun hs H3 e3 => ?_) (fun hs H3 e3 => ?_)
        · refine s_ret (v := .bl (decide (x = y))) (ev_is (ev_andV (ev_isi (vx _ _ rfl) kx sx) (fun h1 => ev_andV (b := decide (x = y)) (ev_isi (vy _ _ rfl) ky sy) (fun h2 => cmp _ _ rfl rfl (scal_flat hx hy (.inr (.inr ⟨h1, h2⟩)))))) ?_) (fun H4 e4 => q H4 (((e1.trans e2).trans e3).trans e4))
          cases x <;> cases y <;> simp_all [isSt, isBl]
        · have ns : isSt x = false ∧ isSt y = false := by simpa using hs
          have xn : x = .non := non_of hx nb.1 ni.1 ns.1
          have yn : y = .non := non_of hy nb.2 ni.2 ns.2
          refine q_asg (v := .bl false) (ev_is (ev_andV (b := false) (ev_isi (vx _ _ rfl) kx lx) (fun _ => ev_isi (vy _ _ rfl) ky ly)) rfl) (fun H4 e4 => ?_)
          refine q_when (b := true) (et_is (et_and (et_not (et_B (ev_var rfl))) (fun _ => et_not (et_and (b := false) (et_B (ev_isi (vx _ _ rfl) kx ux)) (fun _ => et_B (ev_isi (vy _ _ rfl) ky uy))))) rfl) (fun _ H5 e5 => ?_) (fun hf => by cases hf)
          refine s_ret (v := .bl true) (ev_is (ev_andV (a := true) (b := true) (ev_op (vx _ _ rfl) ev_c (fun H6 _ Q' q' => ⟨rfl, ?_⟩)) (fun _ => ev_op (vy _ _ rfl) ev_c (fun H6 _ Q' q' => ⟨rfl, ?_⟩))) rfl) (fun H6 e6 => ?_)
          · rw [xn]
            exact q' H6 (Ex.refl H6)
          · rw [yn]
            exact q' H6 (Ex.refl H6)
          · have z := q H6 (((((e1.trans e2).trans e3).trans e4).trans e5).trans e6)
            rw [xn, yn] at z
            exact z
/-! ### names and literals: the mathematics -/
def ltr (c : Nat) : Bool := decide (c ∈ ("abcdefghijklmnopqrstuvwxyz" : Str).cps.toList)
def dig (c : Nat) : Bool := decide (c ∈ ("0123456789" : Str).cps.toList)
def lod (c : Nat) : Bool := decide (c ∈ ("abcdefghijklmnopqrstuvwxyz0123456789" : Str).cps.toList)
theorem lod_eq (c : Nat) : lod c = (ltr c || dig c) := by
  have e : ("abcdefghijklmnopqrstuvwxyz0123456789" : Str).cps.toList = ("abcdefghijklmnopqrstuvwxyz" : Str).cps.toList ++ ("0123456789" : Str).cps.toList := by decide +kernel
  unfold lod ltr dig
  rw [e, ← Bool.decide_or]
  exact decide_eq_decide.mpr List.mem_append
/-- is it a name -/
def nameL (l : List Nat) : Bool := decide (1 ≤ l.length) && (decide (l.length ≤ 8) && ((l.head?.any ltr) && l.all lod))
def isName (z : Str) : Bool := nameL z.cps.toList
/-- begins it with a minus -/
def dashL (l : List Nat) : Bool := l.head? == some 45
def dash (z : Str) : Bool := dashL z.cps.toList
def Sl (l : List Nat) : Str := ⟨l.toArray⟩
theorem Sl_of (z : Str) : Sl z.cps.toList = z := rfl
/-- without its minus -/
def bare (z : Str) : Str := if dash z = true then Sl (z.cps.toList.drop 1) else z
theorem str_eq {x y : Str} (h : x.cps.toList = y.cps.toList) : x = y := by
  cases x with
  | mk a =>
    cases y with
    | mk b => rw [show a = b from Array.toList_inj.mp h]
theorem cut_1 (z : Str) : (cutS z none (some 1)).cps.toList = z.cps.toList.take 1 := by
  have e : HT.sIx z.length z.length (some 1) = min 1 z.length := HT.sIx_nat z.length z.length 1
  have l : z.cps.toList.length = z.length := Array.length_toList
  show ((z.cps.toList.drop (HT.sIx z.length 0 none)).take (HT.sIx z.length z.length (some 1) - HT.sIx z.length 0 none)).toArray.toList = _
  rw [e, HT.sIx_none, List.drop_zero, Nat.sub_zero]
  show List.take (min 1 z.length) z.cps.toList = _
  rw [← l, ← List.take_take, List.take_length]
theorem cut_from1 (z : Str) : (cutS z (some 1) none).cps.toList = z.cps.toList.drop 1 := by
  have e : HT.sIx z.length 0 (some 1) = min 1 z.length := HT.sIx_nat z.length 0 1
  have l : z.cps.toList.length = z.length := Array.length_toList
  show ((z.cps.toList.drop (HT.sIx z.length 0 (some 1))).take (HT.sIx z.length z.length none - HT.sIx z.length 0 (some 1))).toArray.toList = _
  rw [e, HT.sIx_none]
  show List.take (z.length - min 1 z.length) (z.cps.toList.drop (min 1 z.length)) = _
  rw [← l]
  cases z.cps.toList with
  | nil => rfl
  | cons c r =>
    rw [show min 1 (c :: r).length = 1 by rw [List.length_cons]; omega]
    show List.take ((c :: r).length - 1) r = r
    rw [List.length_cons, Nat.add_sub_cancel]
    exact List.take_length
theorem dash_cut (z : Str) : decide (V.str (cutS z none (some 1)) = V.str "-") = dash z := by
  unfold dash dashL
  by_cases h : z.cps.toList.head? = some 45
  · rw [show (z.cps.toList.head? == some 45) = true by rw [h]; rfl]
    refine decide_eq_true (congrArg V.str (str_eq ?_))
    rw [cut_1]
    cases e : z.cps.toList with
    | nil => rw [e] at h; cases h
    | cons c r =>
      rw [e] at h
      rw [show c = 45 from Option.some.inj h]
      rfl
  · rw [show (z.cps.toList.head? == some 45) = false from beq_eq_false_iff_ne.mpr h]
    refine decide_eq_false fun q => h ?_
    have q2 := congrArg (fun y : Str => y.cps.toList) (V.str.inj q)
    have q3 : z.cps.toList.take 1 = [45] := by
      rw [← cut_1]
      exact q2
    cases e : z.cps.toList with
    | nil => rw [e] at q3; cases q3
    | cons c r =>
      rw [e] at q3
      exact congrArg some (List.cons.inj q3).1
theorem bare_cut {z : Str} (h : dash z = true) : cutS z (some 1) none = bare z := by
  unfold bare
  rw [if_pos h]
  refine str_eq ?_
  rw [cut_from1]
  rfl
theorem bare_no {z : Str} (h : dash z = false) : bare z = z := by
  unfold bare
  rw [h, if_neg Bool.false_ne_true]
theorem bare_rp (z : Str) : Txt.removeprefix z "-" = bare z := by
  rw [PySem.StrLaws.removeprefix_eq, PySem.StrLaws.subAt_eq]
  have l : z.cps.toList.length = z.length := Array.length_toList
  have one : ("-" : Str).length = 1 := by decide
  have cp : ("-" : Str).cps.toList = [45] := by decide
  rw [one, cp, List.drop_zero]
  unfold bare dash dashL
  cases e : z.cps.toList with
  | nil =>
    rw [if_neg (by simp), if_neg (by simp)]
  | cons c r =>
    have hl : z.length = r.length + 1 := by
      rw [← l, e, List.length_cons]
    by_cases h : c = 45
    · subst h
      rw [if_pos (by rw [hl]; simp), if_pos (by rfl)]
      refine str_eq ?_
      show List.take (z.length - 1) (List.drop 1 (45 :: r)) = List.drop 1 (45 :: r)
      rw [hl, Nat.add_sub_cancel]
      exact List.take_length
    · rw [if_neg (by simp [h]), if_neg (by simp [h])]
theorem bare_len (z : Str) : (bare z).cps.size ≤ z.cps.size := by
  unfold bare
  by_cases h : dash z = true
  · rw [if_pos h]
    show (z.cps.toList.drop 1).toArray.size ≤ _
    rw [List.size_toArray, List.length_drop, Array.length_toList]
    omega
  · rw [if_neg h]
    exact Nat.le_refl _
theorem bare_codes {z : Str} (h : ∀ c ∈ z.cps.toList, c < 128) : ∀ c ∈ (bare z).cps.toList, c < 128 := by
  unfold bare
  by_cases hd : dash z = true
  · rw [if_pos hd]
    intro c hc
    have hc2 : c ∈ z.cps.toList.drop 1 := hc
    exact h c (List.mem_of_mem_drop hc2)
  · rw [if_neg hd]
    exact h
theorem bare_same (z : Str) : decide (bare z = z) = !dash z := by
  by_cases hd : dash z = true
  · rw [hd]
    refine decide_eq_false fun q => ?_
    have q2 := congrArg (fun y : Str => y.cps.toList.length) q
    unfold bare at q2
    rw [if_pos hd] at q2
    have q3 : (z.cps.toList.drop 1).length = z.cps.toList.length := q2
    rw [List.length_drop] at q3
    unfold dash dashL at hd
    cases e : z.cps.toList with
    | nil => rw [e] at hd; cases hd
    | cons c r => rw [e, List.length_cons] at q3; omega
  · have hd2 : dash z = false := by simpa using hd
    rw [bare_no hd2, hd2]
    exact decide_eq_true rfl
def isLit (z : Str) : Bool := isName (bare z)
/-- the other sign -/
def flip (z : Str) : Str := if dash z = true then bare z else "-" ++ z
/-! ### further answers -/
open Evl in
theorem rv_inS {H : Hp} {c : Nat} {z : Str} : RV (fun x y H Q => ∃ (c : Nat) (z : Str), x = .str ⟨#[c]⟩ ∧ y = .str z ∧ Q (.bl (decide (c ∈ z.cps.toList))) H) (.str ⟨#[c]⟩) (.str z) H (.bl (decide (c ∈ z.cps.toList))) := fun H1 _ _ q => ⟨c, z, rfl, rfl, q H1 (Ex.refl H1)⟩
open Evl in
theorem rv_notInS {H : Hp} {c : Nat} {z : Str} : RV (fun x y H Q => ∃ (c : Nat) (z : Str), x = .str ⟨#[c]⟩ ∧ y = .str z ∧ Q (.bl (!decide (c ∈ z.cps.toList))) H) (.str ⟨#[c]⟩) (.str z) H (.bl (!decide (c ∈ z.cps.toList))) := fun H1 _ _ q => ⟨c, z, rfl, rfl, q H1 (Ex.refl H1)⟩
open Evl in
theorem rv_itemS {H : Hp} {c : Nat} {z : Str} {i : Nat} (h : z.cps[i]? = some c) (hz : z.cps.size ≤ 100000) : RV (fun x y H Q => ∃ z i c, x = .str z ∧ y = .int i ∧ 0 ≤ i ∧ i < 2 ^ 63 ∧ i < z.length ∧ z.cps[i.toNat]? = some c ∧ Q (.str ⟨#[c]⟩) H) (.str z) (.int (i : Int)) H (.str ⟨#[c]⟩) := fun H1 _ _ q => by
  have hl := (Array.getElem?_eq_some_iff.mp h).1
  have e : (z.length : Nat) = z.cps.size := rfl
  exact ⟨z, i, c, rfl, rfl, by omega, by omega, by omega, by rw [Int.toNat_natCast]; exact h, q H1 (Ex.refl H1)⟩
open Evl in
theorem ev_lenS {σ : L2.St} {H : Hp} {ta : TE} {z : Str} (h : Ev ta σ H (.str z)) (hz : z.cps.size ≤ 100000) : Ev (tCB (fun xs H Q => ∃ z, xs = [V.str z] ∧ z.length ≤ sizeLine ∧ Q (.int z.length) H) (tCons ta tNil)) σ H (.int (z.cps.size : Int)) :=
  ev_cb (ea_cons h ea_nil) fun H1 _ Q q => ⟨z, rfl, sz_of hz, q H1 (Ex.refl H1)⟩
open Evl in
theorem ev_chain {σ : L2.St} {H : Hp} {r r' : R2} {ta tb tc : TE} {x y z : V} {a b : Bool} (ha : Ev ta σ H x) (hb : Ev tb σ H y) (hr : RV r x y H (.bl a)) (h2 : a = true → Ev tc σ H z) (h3 : a = true → RV r' y z H (.bl b)) : Ev (tChain r r' ta tb tc) σ H (.bl (a && b)) := fun H1 e Q q =>
  ha H1 e _ fun H2 e2 => hb H2 (e.trans e2) _ fun H3 e3 => hr H3 ((e.trans e2).trans e3) _ fun H4 e4 => ⟨a, rfl, by
    cases a with
    | true =>
      refine iteT ?_
      exact h2 rfl H4 (((e.trans e2).trans e3).trans e4) _ fun H5 e5 => h3 rfl H5 ((((e.trans e2).trans e3).trans e4).trans e5) Q fun H6 e6 => q H6 ((((e2.trans e3).trans e4).trans e5).trans e6)
    | false =>
      refine iteF ?_
      exact q H4 ((e2.trans e3).trans e4)⟩
open Evl in
theorem ev_all {σ : L2.St} {H : Hp} {tl : TE} {bs : List Bool} (h : EvL tl σ H (bs.map V.bl)) : Ev (tCB (rAll K) (tCons tl tNil)) σ H (.bl (bs.all id)) := fun H1 e Q q =>
  h H1 e _ fun p H2 _ e2 hp => ⟨p, bs, rfl, sq_of hp, q H2 e2⟩
open Evl in
/-- [e for c in a text] -/
theorem el_lcS {σ : L2.St} {H : Hp} {z : Str} {tl te : TE} {j : Nat} {vs : List Nat} (f : Nat → V) (h : Ev tl σ H (.str z)) (hz : z.cps.size ≤ 40000) (hw : ∀ x, wipe ((wipe σ vs).set j (some x)) vs = wipe σ vs)
    (he : ∀ (c : Nat) H1, Ex H H1 → c ∈ z.cps.toList → Ev te ((wipe σ vs).set j (some (.str ⟨#[c]⟩))) H1 (f c)) : EvL (tLc (iStr tl) (gName j) tYes te vs) σ H (z.cps.toList.map f) := fun H0 e Q q => h H0 e _ fun H1 e1 => ⟨z, rfl, fun Dl hD => by
  refine lc_it walk_str (fun i H' => H1 Dl = none ∧ Ex H1 H' ∧ H' Dl = some (.lst ((z.cps.toList.take i).map f))) ⟨hD, Ex.new hD, upd_same⟩ (fun _ _ _ _ => trivial) ?_ ?_
  · rintro i x H2 H3 hi ⟨p1, p2, p3⟩ ⟨rfl, c, hc, rfl⟩
    have hc2 : z.cps.toList[i]? = some c := by
      rw [Array.getElem?_toList]
      exact hc
    have hm : c ∈ z.cps.toList := List.mem_of_getElem? hc2
    refine ⟨hw _, ?_⟩
    unfold tYes
    dsimp only
    rw [if_pos rfl]
    refine he c H1 (e.trans e1) hm H3 p2 _ fun H4 e4 => ⟨_, e4 _ _ p3, ?_, p1, Ex.mut (p2.trans e4) p1, ?_⟩
    · rw [List.length_map]
      exact sz_lt (by have := List.length_take_le i z.cps.toList; omega)
    · rw [List.take_add_one, hc2, List.map_append]
      exact upd_same
  · rintro H2 ⟨p1, p2, p3⟩
    have ef : z.cps.toList.take z.cps.size = z.cps.toList := by
      rw [← Array.length_toList]
      exact List.take_length
    rw [ef] at p3
    exact q Dl H2 (fresh_back e1 p1) (e1.trans p2) p3⟩
/-! ### is_name, is_literal and what the law says of them -/
def spIsName : Sp := fun vs H Q _ => ∃ z : Str, vs = [.str z] ∧ z.cps.size ≤ 1000 ∧ ∀ H', Evl.Ex H H' → Q (.bl (isName z)) H'
open Evl in
theorem ok_is_name (T : Txt P K mg) : FnOk P w K mg base CX0 1 T.f_is_name T.d_is_name ["text"] spIsName := by
  refine T.F_is_name.ok sc_is_name (fun vs H Q E h => ?_) (fun cdv A outer s H vs Q E hr h => ?_)
  · obtain ⟨z, rfl, _⟩ := h
    rfl
  · obtain ⟨z, rfl, hz, q⟩ := h
    have vz : ∀ (σ : L2.St) (H : Hp), σ[0]? = some (some (V.str z)) → Ev (tVar 0) σ H (.str z) := fun σ H e => ev_var e
    refine ⟨_, (pss_cons (ps_if (pt_not (pt_chain op_le op_le pe_int (pe_callB call_len_str (by rfl) T.n_len PySem.boot_len (pa_cons (pv 0) pa_nil)) (pe_glob (v := .int 8) rfl T.v_LONGEST_NAME ⟨_, rfl⟩))) (pss_one (ps_ret pe_bl)) pss_nil)
      (pss_one (ps_ret (pe_and (pe_cmpR op_in_sign (pe_item_str (pv 0) pe_int (fun _ _ => rfl)) (pe_glob (v := .str "abcdefghijklmnopqrstuvwxyz") rfl T.v_LETTERS ⟨_, rfl⟩) (by rfl)) (pe_one (pe_callB (cr_all rfl) (by rfl) T.n_all (by decide +kernel) (pa_cons (pe_lc (own := [("sign", 1)]) (g := gName 1) (by rfl) sc_is_name.nd (pi_str (pv 0)) (blkOk_by (own := [("sign", 1)]) (N := N_is_name) (sc := defScope s_is_name) (by decide +kernel)) (fun _ _ _ _ _ => pg_name (i := 1) sc_is_name.nd rfl (Or.inl rfl)) (fun _ _ _ _ _ => pts_nil) (fun _ _ _ _ _ => (pe_cmpR op_in_sign (pv 1) (pe_glob (v := .str "abcdefghijklmnopqrstuvwxyz0123456789") rfl T.v_LETTERS_AND_DIGITS ⟨_, rfl⟩) (by rfl)))) pa_nil))))))), ?_⟩
    have l : z.cps.toList.length = z.cps.size := Array.length_toList
    refine q_when (et_not (et_test (ev_chain (a := decide (1 ≤ z.cps.size)) (b := decide (z.cps.size ≤ 8)) ev_c (ev_lenS (vz _ _ rfl) (by omega)) (fun H1 _ Q q => ⟨1, _, rfl, rfl, ?_⟩) (fun _ => ev_c) (fun _ H1 _ Q q => ⟨_, 8, rfl, rfl, ?_⟩)))) (fun hb H1 e1 => ?_) (fun hb H1 e1 => ?_)
    · have e : decide ((1 : Int) ≤ (z.cps.size : Int)) = decide (1 ≤ z.cps.size) := decide_eq_decide.mpr (by omega)
      show Q (.bl (decide ((1 : Int) ≤ (z.cps.size : Int)))) H1
      rw [e]
      exact q H1 (Ex.refl H1)
    · have e : decide ((z.cps.size : Int) ≤ 8) = decide (z.cps.size ≤ 8) := decide_eq_decide.mpr (by omega)
      show Q (.bl (decide ((z.cps.size : Int) ≤ 8))) H1
      rw [e]
      exact q H1 (Ex.refl H1)
    · refine s_ret (v := .bl (isName z)) (ev_is ev_c ?_) (fun H2 e2 => q H2 (e1.trans e2))
      have hb2 : (decide (1 ≤ z.cps.size) && decide (z.cps.size ≤ 8)) = false := by
        rw [Bool.not_eq_true'] at hb
        exact hb
      unfold isName nameL
      rw [← Bool.and_assoc, l, hb2]
      rfl
    · have hb2 : (decide (1 ≤ z.cps.size) && decide (z.cps.size ≤ 8)) = true := by
        rw [Bool.not_eq_false'] at hb
        exact hb
      rw [Bool.and_eq_true] at hb2
      have h1 : 1 ≤ z.cps.size := of_decide_eq_true hb2.1
      obtain ⟨c, r, hc⟩ : ∃ c r, z.cps.toList = c :: r := by
        cases e : z.cps.toList with
        | nil => rw [e] at l; simp at l; omega
        | cons c r => exact ⟨c, r, rfl⟩
      have c0 : z.cps[0]? = some c := by
        rw [← Array.getElem?_toList, hc]
        rfl
      refine s_ret (v := .bl (isName z)) (ev_is (ev_andV (a := ltr c) (b := z.cps.toList.all lod) (ev_op (ev_op (vz _ _ rfl) ev_c (rv_itemS (i := 0) c0 (by omega))) ev_c rv_inS) (fun _ => ev_is (ev_all (bs := z.cps.toList.map lod) ?_) ?_)) ?_) (fun H2 e2 => q H2 (e1.trans e2))
      · rw [List.map_map]
        exact el_lcS (f := fun c => V.bl (lod c)) (vz _ _ rfl) (by omega) (fun _ => rfl) (fun c H2 e2 hm => ev_op (ev_var rfl) ev_c rv_inS)
      · rw [List.all_map]
        rfl
      · unfold isName nameL
        rw [l, hb2.1, hb2.2, hc]
        rfl
open Evl in
theorem ok__law_is_name (T : Txt P K mg) : FnOk P w K mg base CX0 1 T.f__law_is_name T.d__law_is_name ["_law_text"] spIsName := by
  refine T.F__law_is_name.ok sc__law_is_name (fun vs H Q E h => ?_) (fun cdv A outer s H vs Q E hr h => ?_)
  · obtain ⟨z, rfl, _⟩ := h
    rfl
  · obtain ⟨z, rfl, hz, q⟩ := h
    have vz : ∀ (σ : L2.St) (H : Hp), σ[0]? = some (some (V.str z)) → Ev (tVar 0) σ H (.str z) := fun σ H e => ev_var e
    refine ⟨_, (pss_cons (ps_set (i := 1) sc__law_is_name.nd rfl (.inr rfl) pe_str)
      (pss_cons (ps_if (PW.pt (pw_or (pt_cmpR op_eq (pe_callB call_len_str (by rfl) T.n_len PySem.boot_len (pa_cons (pv 0) pa_nil)) pe_int (nomark _)) (pw_or (pt_cmpR op_gt (pe_callB call_len_str (by rfl) T.n_len PySem.boot_len (pa_cons (pv 0) pa_nil)) pe_int (nomark _)) (pw_or1 (pt_cmpR op_notIn_sign (pe_item_str (pv 0) pe_int (fun _ _ => rfl)) (pv 1) (by rfl)))))) (pss_one (ps_ret pe_bl)) pss_nil)
      (pss_one (ps_ret (pe_callB (cr_all rfl) (by rfl) T.n_all (by decide +kernel) (pa_cons (pe_lc (own := [("_law_sign_here", 2)]) (g := gName 2) (by rfl) sc__law_is_name.nd (pi_str (pv 0)) (blkOk_by (own := [("_law_sign_here", 2)]) (N := N__law_is_name) (sc := defScope s__law_is_name) (by decide +kernel)) (fun _ _ _ _ _ => pg_name (i := 2) sc__law_is_name.nd rfl (Or.inl rfl)) (fun _ _ _ _ _ => pts_nil) (fun _ _ _ _ _ => (pe_or (pe_cmpR op_in_sign (pv 2) (pv 1) (by rfl)) (pe_one (pe_cmpR op_in_sign (pv 2) pe_str (by rfl)))))) pa_nil)))))), ?_⟩
    have l : z.cps.toList.length = z.cps.size := Array.length_toList
    refine q_asg ev_c (fun H0 e0 => ?_)
    have hh : ∀ c r, z.cps.toList = c :: r → z.cps[0]? = some c := fun c r hc => by
      rw [← Array.getElem?_toList, hc]
      rfl
    refine q_when (b := decide (z.cps.size = 0) || (decide (8 < z.cps.size) || !(z.cps.toList.head?.any ltr))) (et_or (et_test (ev_is (ev_op (ev_lenS (vz _ _ rfl) (by omega)) ev_c (rv_eq rfl)) ?_)) (fun h0 => et_or (et_test (ev_op (ev_lenS (vz _ _ rfl) (by omega)) ev_c (fun H1 _ Q q => ⟨_, 8, rfl, rfl, ?_⟩))) (fun h8 => et_test ?_))) (fun hb H1 e1 => ?_) (fun hb H1 e1 => ?_)
    · refine congrArg V.bl (decide_eq_decide.mpr ⟨fun x => ?_, fun x => ?_⟩)
      · have y := V.int.inj x
        omega
      · rw [x]
        rfl
    · have e : decide ((8 : Int) < (z.cps.size : Int)) = decide (8 < z.cps.size) := decide_eq_decide.mpr (by omega)
      show Q (.bl (decide ((8 : Int) < (z.cps.size : Int)))) H1
      rw [e]
      exact q H1 (Ex.refl H1)
    · have n0 : z.cps.size ≠ 0 := of_decide_eq_false h0
      obtain ⟨c, r, hc⟩ : ∃ c r, z.cps.toList = c :: r := by
        cases e : z.cps.toList with
        | nil => rw [e] at l; simp at l; omega
        | cons c r => exact ⟨c, r, rfl⟩
      refine ev_is (ev_op (ev_op (vz _ _ rfl) ev_c (rv_itemS (i := 0) (hh c r hc) (by omega))) (ev_var rfl) rv_notInS) ?_
      rw [hc]
      rfl
    · refine s_ret (v := .bl (isName z)) (ev_is ev_c ?_) (fun H2 e2 => q H2 ((e0.trans e1).trans e2))
      unfold isName nameL
      rw [l]
      refine congrArg V.bl ?_
      by_cases h0 : z.cps.size = 0
      · rw [h0]
        rfl
      · by_cases h8 : 8 < z.cps.size
        · rw [decide_eq_false (show ¬ z.cps.size ≤ 8 by omega), Bool.false_and, Bool.and_false]
        · rw [decide_eq_false h0, decide_eq_false h8] at hb
          have hb2 : z.cps.toList.head?.any ltr = false := by simpa using hb
          rw [hb2, Bool.false_and, Bool.and_false, Bool.and_false]
    · rw [Bool.or_eq_false_iff, Bool.or_eq_false_iff] at hb
      obtain ⟨h0, h8, hl⟩ := hb
      have n0 : z.cps.size ≠ 0 := of_decide_eq_false h0
      have n8 : ¬ 8 < z.cps.size := of_decide_eq_false h8
      have hl2 : z.cps.toList.head?.any ltr = true := by simpa using hl
      refine s_ret (v := .bl (isName z)) (ev_is (ev_all (bs := z.cps.toList.map lod) ?_) ?_) (fun H2 e2 => q H2 ((e0.trans e1).trans e2))
      · rw [List.map_map]
        refine el_lcS (f := fun c => V.bl (lod c)) (vz _ _ rfl) (by omega) (fun _ => rfl) (fun c H2 e2 hm => ?_)
        refine ev_is (ev_orV (a := ltr c) (b := dig c) (ev_op (ev_var rfl) (ev_var rfl) rv_inS) (fun _ => ev_op (ev_var rfl) ev_c rv_inS)) ?_
        rw [lod_eq]
      · unfold isName nameL
        rw [l, decide_eq_true (show 1 ≤ z.cps.size by omega), decide_eq_true (show z.cps.size ≤ 8 by omega), hl2, List.all_map]
        rfl
/-! ### literals -/
open Evl in
theorem rv_rp {H : Hp} {te : TE} {σ : L2.St} {z : Str} (h : Ev te σ H (.str z)) (hz : z.cps.size ≤ 1000) : Ev (tBM K "str" (fun x xs H Q => ∃ a b, x = .str a ∧ xs = [.str b] ∧ a.length ≤ sizeLine ∧ Q (.str (Txt.removeprefix a b)) H) te (tCons (tC (.str "-")) tNil)) σ H (.str (bare z)) := fun H1 e Q q =>
  h H1 e _ fun H2 e2 => ⟨rfl, z, "-", rfl, rfl, sz_of (by show z.cps.size ≤ _; omega), by rw [bare_rp]; exact q H2 e2⟩
def spIsLit : Sp := fun vs H Q _ => ∃ z : Str, vs = [.str z] ∧ z.cps.size ≤ 1000 ∧ ∀ H', Evl.Ex H H' → Q (.bl (isLit z)) H'
open Evl in
theorem ok_is_literal (T : Txt P K mg) : FnOk P w K mg base CX0 2 T.f_is_literal T.d_is_literal ["text"] spIsLit := by
  refine T.F_is_literal.ok sc_is_literal (fun vs H Q E h => ?_) (fun cdv A outer s H vs Q E hr h => ?_)
  · obtain ⟨z, rfl, _⟩ := h
    rfl
  · obtain ⟨z, rfl, hz, q⟩ := h
    refine ⟨_, (pss_one (ps_ret (pe_call (ok_is_name T) (hr.mono (by decide)) rfl T.g_is_name T.F_is_name.kp T.b_is_name .nil pass0 (pa_cons (pe_bm PySem.F.plainAttrs_str PySem.F.slot_str_removeprefix PySem.F.type_str_removeprefix mt_removeprefix (pv 0) (pa_cons pe_str pa_nil)) pa_nil)))), ?_⟩
    refine s_ret (ev_call (z := .bl (isLit z)) (ea_cons (rv_rp (ev_var rfl) hz) ea_nil) (fun H1 e1 Q' q' E' => ⟨bare z, rfl, Nat.le_trans (bare_len z) hz, fun H2 e2 => q' H2 e2⟩)) (fun H1 e1 => q H1 e1)
theorem flip_dash {z : Str} (h : dash z = true) : flip z = bare z := if_pos h
theorem flip_no {z : Str} (h : dash z = false) : flip z = "-" ++ z := by
  unfold flip
  rw [h, if_neg Bool.false_ne_true]
/-- a def that takes a literal: g of it, or BadLiteral with the text -/
def spLit (C : Addr) (g : Str → V) : Sp := fun vs H Q E => ∃ z : Str, vs = [.str z] ∧ z.cps.size ≤ 50 ∧ (∀ c ∈ z.cps.toList, c < 128) ∧ (isLit z = true → ∀ H', Evl.Ex H H' → Q (g z) H') ∧
  (isLit z = false → ∀ H' d, Evl.Ex H H' → H' d = some (.xd [("text", .str z)]) → E (.ref C) (some d) H')
theorem repr_le {z : Str} (hz : z.cps.size ≤ 50) (hc : ∀ c ∈ z.cps.toList, c < 128) : (reprText z).length ≤ 1000 := by
  have h := PySem.StrLaws.reprText_len z fun c h => Nat.lt_trans (hc c h) (by decide)
  have h2 : z.length ≤ 50 := hz
  omega
theorem ok_check_literal (T : Txt P K mg) : FnOk P w K mg base (L2N.CX P w) 3 T.f_check_literal T.d_check_literal ["text"] (spLit T.C_BadLiteral fun _ => .non) := by
  refine T.F_check_literal.okN sc_check_literal (fun vs H Q E h => ?_) (fun cdv A outer s H vs Q E hr h => ?_)
  · obtain ⟨z, rfl, _⟩ := h
    rfl
  · obtain ⟨z, rfl, hz, hc, q1, q2⟩ := h
    refine ⟨_, (pss_one (ps_if (pt_not (pt_val (pe_call (ok_is_literal T) (hr.mono (by decide)) rfl T.g_is_literal T.F_is_literal.kp T.b_is_literal .nil pass0 (pa_cons (pv 0) pa_nil)))) (pss_one (L2N.ps_raise rfl (L2N.takes_of rfl rfl rfl rfl) (pmk1 T.E_BadLiteral rfl fld_text T.o_BadLiteral hr (pa_cons (pv 0) pa_nil) rfl (by decide)))) pss_nil)), ?_⟩
    refine ⟨_, rfl, z, rfl, by omega, fun H1 e1 => ⟨_, rfl, ?_⟩⟩
    cases hl : isLit z with
    | true =>
      refine iteF ?_
      exact q1 hl H1 e1
    | false =>
      refine iteT ?_
      refine ⟨_, rfl, _, rfl, fun u hu => ?_, fun d hd => q2 hl _ d (e1.trans (Evl.Ex.new hd)) upd_same⟩
      obtain ⟨t, rfl⟩ := hu
      exact msg_cr fld_text (by decide) (repr_le hz hc)
theorem ok_name_of (T : Txt P K mg) : FnOk P w K mg base (L2N.CX P w) 4 T.f_name_of T.d_name_of ["literal"] (spLit T.C_BadLiteral fun z => .str (bare z)) := by
  refine T.F_name_of.okN sc_name_of (fun vs H Q E h => ?_) (fun cdv A outer s H vs Q E hr h => ?_)
  · obtain ⟨z, rfl, _⟩ := h
    rfl
  · obtain ⟨z, rfl, hz, hc, q1, q2⟩ := h
    refine ⟨_, (pss_cons (ps_expr (pe_call (ok_check_literal T) (hr.mono (by decide)) rfl T.g_check_literal T.F_check_literal.kp T.b_check_literal .nil (L2N.passes_call (L2N.takes_of rfl rfl rfl rfl) (fun _ _ _ _ h => h)) (pa_cons (pv 0) pa_nil)))
      (pss_one (ps_ret (pe_bm PySem.F.plainAttrs_str PySem.F.slot_str_removeprefix PySem.F.type_str_removeprefix mt_removeprefix (pv 0) (pa_cons pe_str pa_nil))))), ?_⟩
    refine ⟨_, rfl, z, rfl, hz, hc, fun hl H1 e1 => ?_, q2⟩
    exact Evl.s_ret (rv_rp (Evl.ev_var rfl) (by omega)) fun H2 e2 => q1 hl H2 (e1.trans e2)
theorem ok_is_positive (T : Txt P K mg) : FnOk P w K mg base (L2N.CX P w) 5 T.f_is_positive T.d_is_positive ["literal"] (spLit T.C_BadLiteral fun z => .bl (!dash z)) := by
  refine T.F_is_positive.okN sc_is_positive (fun vs H Q E h => ?_) (fun cdv A outer s H vs Q E hr h => ?_)
  · obtain ⟨z, rfl, _⟩ := h
    rfl
  · obtain ⟨z, rfl, hz, hc, q1, q2⟩ := h
    refine ⟨_, (pss_one (ps_ret (pe_cmpR op_eq (pe_call (ok_name_of T) (hr.mono (by decide)) rfl T.g_name_of T.F_name_of.kp T.b_name_of .nil (L2N.passes_call (L2N.takes_of rfl rfl rfl rfl) (fun _ _ _ _ h => h)) (pa_cons (pv 0) pa_nil)) (pv 0) (nomark _)))), ?_⟩
    refine ⟨_, rfl, z, rfl, hz, hc, fun hl H1 e1 => ⟨_, rfl, rfl, ?_⟩, q2⟩
    have e : decide (V.str (bare z) = V.str z) = !dash z := by
      rw [← bare_same z]
      exact decide_eq_decide.mpr ⟨fun x => V.str.inj x, fun x => congrArg V.str x⟩
    rw [e]
    exact q1 hl H1 e1
theorem ok_negated (T : Txt P K mg) : FnOk P w K mg base (L2N.CX P w) 6 T.f_negated T.d_negated ["literal"] (spLit T.C_BadLiteral fun z => .str (flip z)) := by
  refine T.F_negated.okN sc_negated (fun vs H Q E h => ?_) (fun cdv A outer s H vs Q E hr h => ?_)
  · obtain ⟨z, rfl, _⟩ := h
    rfl
  · obtain ⟨z, rfl, hz, hc, q1, q2⟩ := h
    refine ⟨_, (pss_cons (ps_if (pt_val (pe_call (ok_is_positive T) (hr.mono (by decide)) rfl T.g_is_positive T.F_is_positive.kp T.b_is_positive .nil (L2N.passes_call (L2N.takes_of rfl rfl rfl rfl) (fun _ _ _ _ h => h)) (pa_cons (pv 0) pa_nil))) (pss_one (ps_ret (pe_joined (.cons pe_str (.cons (pe_fmt (pv 0)) .nil))))) pss_nil)
      (pss_one (ps_ret (pe_call (ok_name_of T) (hr.mono (by decide)) rfl T.g_name_of T.F_name_of.kp T.b_name_of .nil (L2N.passes_call (L2N.takes_of rfl rfl rfl rfl) (fun _ _ _ _ h => h)) (pa_cons (pv 0) pa_nil))))), ?_⟩
    refine ⟨_, rfl, z, rfl, hz, hc, fun hl H1 e1 => ⟨_, rfl, ?_⟩, q2⟩
    cases hd : dash z with
    | true =>
      refine iteF ?_
      refine ⟨_, rfl, z, rfl, hz, hc, fun hl2 H2 e2 => ?_, fun hl2 => by rw [hl] at hl2; cases hl2⟩
      have z3 : Q (.str (flip z)) H2 := q1 hl H2 (e1.trans e2)
      rw [flip_dash hd] at z3
      exact z3
    | false =>
      refine iteT ?_
      have zl : z.length ≤ 50 := hz
      have l1 : (Str.empty ++ ("-" : Str)).length ≤ sizeLine := line_of (by decide)
      have l2 : (Str.empty ++ ("-" : Str) ++ z).length ≤ sizeLine := line_of (Nat.le_trans (app_le (n := 1) (m := 50) (by decide) hz) (by decide))
      refine ⟨"-", rfl, l1, _, rfl, .inl ⟨z, rfl, line_of (by omega), z, rfl, l2, ?_⟩⟩
      have z2 : Q (.str (flip z)) H1 := q1 hl H1 e1
      rw [flip_no hd] at z2
      exact z2
/-! ### the law's own -/
def spPure (g : Str → V) : Sp := fun vs H Q _ => ∃ z : Str, vs = [.str z] ∧ z.cps.size ≤ 50 ∧ ∀ H', Evl.Ex H H' → Q (g z) H'
open Evl in
theorem ev_sl1 {H : Hp} {te : TE} {σ : L2.St} {z : Str} (h : Ev te σ H (.str z)) (hz : z.cps.size ≤ 1000) : Ev (tSl rSlS te tNoPart (tPart (tC (.int 1)))) σ H (.str (cutS z none (some 1))) := fun H1 e Q q =>
  h H1 e _ fun H2 e2 => ⟨1, rfl, z, rfl, sz_of (by show z.cps.size ≤ _; omega), q H2 e2⟩
open Evl in
theorem ev_sl1n {H : Hp} {te : TE} {σ : L2.St} {z : Str} (h : Ev te σ H (.str z)) (hz : z.cps.size ≤ 1000) : Ev (tSl rSlS te (tPart (tC (.int 1))) tNoPart) σ H (.str (cutS z (some 1) none)) := fun H1 e Q q =>
  h H1 e _ fun H2 e2 => ⟨1, rfl, z, rfl, sz_of (by show z.cps.size ≤ _; omega), q H2 e2⟩
open Evl in
theorem ok__law_name (T : Txt P K mg) : FnOk P w K mg base CX0 1 T.f__law_name T.d__law_name ["_law_literal"] (spPure fun z => .str (bare z)) := by
  refine T.F__law_name.ok sc__law_name (fun vs H Q E h => ?_) (fun cdv A outer s H vs Q E hr h => ?_)
  · obtain ⟨z, rfl, _⟩ := h
    rfl
  · obtain ⟨z, rfl, hz, q⟩ := h
    refine ⟨_, (pss_cons (ps_if (pt_cmpR op_eq (pe_slice sl_str (pv 0) po_none (po_some pe_int)) pe_str (nomark _)) (pss_one (ps_ret (pe_slice sl_str (pv 0) (po_some pe_int) po_none))) pss_nil)
      (pss_one (ps_ret (pv 0)))), ?_⟩
    refine q_when (b := dash z) (et_test (ev_is (ev_op (ev_sl1 (ev_var rfl) (by omega)) ev_c (rv_eq rfl)) (by rw [dash_cut]))) (fun hd H1 e1 => ?_) (fun hd H1 e1 => ?_)
    · refine s_ret (ev_is (w := .str (bare z)) (ev_sl1n (ev_var rfl) (by omega)) (by rw [bare_cut hd])) fun H2 e2 => q H2 (e1.trans e2)
    · refine s_ret (ev_is (v := .str z) (w := .str (bare z)) (ev_var rfl) (by rw [bare_no hd])) fun H2 e2 => q H2 (e1.trans e2)
open Evl in
theorem ok__law_flip (T : Txt P K mg) : FnOk P w K mg base CX0 1 T.f__law_flip T.d__law_flip ["_law_literal"] (spPure fun z => .str (flip z)) := by
  refine T.F__law_flip.ok sc__law_flip (fun vs H Q E h => ?_) (fun cdv A outer s H vs Q E hr h => ?_)
  · obtain ⟨z, rfl, _⟩ := h
    rfl
  · obtain ⟨z, rfl, hz, q⟩ := h
    refine ⟨_, (pss_cons (ps_if (pt_cmpR op_eq (pe_slice sl_str (pv 0) po_none (po_some pe_int)) pe_str (nomark _)) (pss_one (ps_ret (pe_slice sl_str (pv 0) (po_some pe_int) po_none))) pss_nil)
      (pss_one (ps_ret (pe_op op_add_str pe_str (pv 0))))), ?_⟩
    refine q_when (b := dash z) (et_test (ev_is (ev_op (ev_sl1 (ev_var rfl) (by omega)) ev_c (rv_eq rfl)) (by rw [dash_cut]))) (fun hd H1 e1 => ?_) (fun hd H1 e1 => ?_)
    · refine s_ret (ev_is (w := .str (flip z)) (ev_sl1n (ev_var rfl) (by omega)) ?_) fun H2 e2 => q H2 (e1.trans e2)
      rw [bare_cut hd, flip_dash hd]
    · refine s_ret (ev_is (v := .str ("-" ++ z)) (w := .str (flip z)) (ev_op (y := .str z) ev_c (ev_var rfl) (fun H2 _ Q q => ⟨"-", z, rfl, rfl, ?_, q H2 (Ex.refl H2)⟩)) ?_) fun H2 e2 => q H2 (e1.trans e2)
      · have h1 : ("-" : Str).length = 1 := by decide
        have h2 : z.length = z.cps.size := rfl
        exact line_of (by omega)
      · rw [flip_no hd]
/-- _law_refuses(deed, text), the text no literal -/
def spRefuses : Sp := fun vs H Q _ => ∃ (k : Int) (z : Str), vs = [.int k, .str z] ∧ z.cps.size ≤ 50 ∧ (∀ c ∈ z.cps.toList, c < 128) ∧ isLit z = false ∧ ∀ H', Evl.Ex H H' → Q (.bl true) H'
theorem ok__law_refuses (T : Txt P K mg) : FnOk P w K mg base CX0 7 T.f__law_refuses T.d__law_refuses ["_law_deed", "_law_text"] spRefuses := by
  refine T.F__law_refuses.ok sc__law_refuses (fun vs H Q E h => ?_) (fun cdv A outer s H vs Q E hr h => ?_)
  · obtain ⟨k, z, rfl, _⟩ := h
    rfl
  · obtain ⟨k, z, rfl, hz, hc, hl, q⟩ := h
    refine ⟨_, (pss_cons (L2N.ps_try_as (i := 2)
      (tb := fun W => tIfS (tTest (tOp rEq (tVar 0) (tC (.int 0)))) (tDrop (tCallS (spLit T.C_BadLiteral fun z => .str (bare z)) (WE W) (tCons (tVar 1) tNil))) (tIfS (tTest (tOp rEq (tVar 0) (tC (.int 1)))) (tDrop (tCallS (spLit T.C_BadLiteral fun z => .bl (!dash z)) (WE W) (tCons (tVar 1) tNil))) (tDrop (tCallS (spLit T.C_BadLiteral fun z => .str (flip z)) (WE W) (tCons (tVar 1) tNil)))))
      (ts := fun a cls d => tSeq (tAsg (tAndV (tCB (rIsF K T.C_BadLiteral a cls d) (tCons (tVar 2) (tCons (tC (.ref T.C_HornError)) tNil))) (tAndV (tCB (rIsF K T.C_BadLiteral a cls d) (tCons (tVar 2) (tCons (tC (.ty "ValueError")) tNil))) (tNotV (tCB (rIsF K T.C_BadLiteral a cls d) (tCons (tVar 2) (tCons (tC (.ref T.C_BadName)) tNil)))))) (gName 3)) (tRet (tAndV (tVar 3) (tCallS spSame (fun _ => E0) (tCons (tByF T.C_BadLiteral a cls d "text" (tVar 2)) (tCons (tVar 1) tNil))))))
      (Wout := fun _ _ _ _ => False) rfl rfl sc__law_refuses.nd rfl rfl ⟨rfl, by decide, Or.inl T.E_BadLiteral.gC⟩ takes0N
      (fun W pn xe tk _ => (pss_one (ps_if (pt_cmpR op_eq (pv 0) pe_int (nomark _)) (pss_one (ps_expr (pe_callS (ok_name_of T) (hr.mono (by decide)) rfl T.g_name_of T.F_name_of.kp T.b_name_of (fun σ => L2N.passAt tk σ) (by exact (pa_cons (pv 1) pa_nil))))) (pss_one (ps_if (pt_cmpR op_eq (pv 0) pe_int (nomark _)) (pss_one (ps_expr (pe_callS (ok_is_positive T) (hr.mono (by decide)) rfl T.g_is_positive T.F_is_positive.kp T.b_is_positive (fun σ => L2N.passAt tk σ) (by exact (pa_cons (pv 1) pa_nil))))) (pss_one (ps_expr (pe_callS (ok_negated T) (hr.mono (by decide)) rfl T.g_negated T.F_negated.kp T.b_negated (fun σ => L2N.passAt tk σ) (by exact (pa_cons (pv 1) pa_nil))))))))))
      (fun a oe cls d pn hz hf => (pss_cons (ps_set (i := 3) sc__law_refuses.nd rfl (.inl rfl) (pe_and (pe_callB (call_isF T.x_BadLiteral hz.zc hf) (by rfl) T.n_isinstance (by decide +kernel) (pa_cons (pv 2) (pa_cons (pe_glob (v := .ref T.C_HornError) rfl T.g_HornError rfl) pa_nil))) (pe_and (pe_callB (call_isF T.x_BadLiteral hz.zc hf) (by rfl) T.n_isinstance (by decide +kernel) (pa_cons (pv 2) (pa_cons (pe_bltn (v := .ty "ValueError") (u := .type "ValueError") (by rfl) T.n_ValueError (by decide +kernel) rfl) pa_nil))) (pe_one (pe_not (pe_callB (call_isF T.x_BadLiteral hz.zc hf) (by rfl) T.n_isinstance (by decide +kernel) (pa_cons (pv 2) (pa_cons (pe_glob (v := .ref T.C_BadName) rfl T.E_BadName.gC rfl) pa_nil))))))))
      (pss_one (ps_ret (pe_and (pv 3) (pe_one (L2H.pe_callH (okH__law_same T) (L2H.RoomH.mono (room_suite hr) (by decide)) (hot_suite hz hf) rfl T.g__law_same T.F__law_same.kp T.b__law_same pass0H (pa_cons (pe_byF T.E_BadLiteral T.o_BadLiteral hz.zc hf (pv 2)) (pa_cons (pv 1) pa_nil))))))))))
      (pss_one (ps_ret pe_bl))), ?_⟩
    -- what a refusal leads to
    have suite : ∀ (g : Str → V), (spLit T.C_BadLiteral g) [.str z] H (fun v H' => tRet (tC (.bl false)) { nx := fun _ H' => Q .non H', rt := Q } [some (.int k), some (.str z), none, none] H') (fun cls d H' => wAs K (.ref T.C_BadLiteral) 2 (fun a cls d => tSeq (tAsg (tAndV (tCB (rIsF K T.C_BadLiteral a cls d) (tCons (tVar 2) (tCons (tC (.ref T.C_HornError)) tNil))) (tAndV (tCB (rIsF K T.C_BadLiteral a cls d) (tCons (tVar 2) (tCons (tC (.ty "ValueError")) tNil))) (tNotV (tCB (rIsF K T.C_BadLiteral a cls d) (tCons (tVar 2) (tCons (tC (.ref T.C_BadName)) tNil)))))) (gName 3)) (tRet (tAndV (tVar 3) (tCallS spSame (fun _ => E0) (tCons (tByF T.C_BadLiteral a cls d "text" (tVar 2)) (tCons (tVar 1) tNil)))))) (fun _ _ _ _ => False) { nx := tRet (tC (.bl false)) { nx := fun _ H' => Q .non H', rt := Q }, rt := Q } cls d [some (.int k), some (.str z), none, none] H') := fun g => by
      refine ⟨z, rfl, hz, hc, (fun x => absurd (hl.symm.trans x) (by decide)), fun _ H1 d e1 hd => ?_⟩
      refine ⟨true, T.E_BadLiteral.te, fun _ a na => ?_, fun q => Bool.noConfusion q⟩
      obtain ⟨b1, k1, rfl⟩ := T.k_BadLiteral_HornError
      obtain ⟨b2, k2, rfl⟩ := T.k_BadLiteral_ValueError
      obtain ⟨b3, k3, rfl⟩ := T.k_BadLiteral_BadName
      have hx : ∀ dx, some d = some dx → ∃ fs, H1 dx = some (.xd fs) := fun dx e => ⟨[("text", .str z)], (Option.some.inj e) ▸ hd⟩
      refine ⟨_, rfl, rfl, .ref T.C_HornError, .ref T.C_HornError, _, rfl, fun u e => e, hx, k1, _, rfl, iteT ?_⟩
      refine ⟨_, rfl, rfl, .ty "ValueError", .type "ValueError", _, rfl, fun u e => e, hx, k2, _, rfl, iteT ?_⟩
      refine ⟨_, rfl, rfl, .ref T.C_BadName, .ref T.C_BadName, _, rfl, fun u e => e, hx, k3, _, rfl, ?_⟩
      refine ⟨_, rfl, _, rfl, iteT ?_⟩
      refine ⟨_, rfl, rfl, rfl, d, _, rfl, hd, _, rfl, .str z, .str z, rfl, rfl, rfl, fun H2 e2 => ?_⟩
      have z2 := q H2 (e1.trans e2)
      rw [show decide (V.str z = V.str z) = true from decide_eq_true rfl]
      exact z2
    refine ⟨_, rfl, rfl, _, rfl, ite2 (fun e => ?_) (fun e => ?_)⟩
    · exact ⟨_, rfl, suite fun z => .str (bare z)⟩
    · refine ⟨_, rfl, rfl, _, rfl, ite2 (fun e => ?_) (fun e => ?_)⟩
      · exact ⟨_, rfl, suite fun z => .bl (!dash z)⟩
      · exact ⟨_, rfl, suite fun z => .str (flip z)⟩
/-- _law_answers(text) -/
def spAnswers : Sp := fun vs H Q _ => ∃ z : Str, vs = [.str z] ∧ z.cps.size ≤ 50 ∧ (∀ c ∈ z.cps.toList, c < 128) ∧ ∀ H', Evl.Ex H H' → Q (.bl true) H'
open Evl in
theorem ev_pure {g : Str → V} {σ : L2.St} {H : Hp} {te : TE} {z : Str} {E : XK} (h : Ev te σ H (.str z)) (hz : z.cps.size ≤ 50) : Ev (tCall (spPure g) [] E (tCons te tNil)) σ H (g z) := ev_call (ea_cons h ea_nil) fun H1 _ Q q E => ⟨z, rfl, hz, q⟩
open Evl in
theorem ev_isName {σ : L2.St} {H : Hp} {te : TE} {z : Str} {E : XK} (h : Ev te σ H (.str z)) (hz : z.cps.size ≤ 50) : Ev (tCall spIsName [] E (tCons te tNil)) σ H (.bl (isName z)) := ev_call (ea_cons h ea_nil) fun H1 _ Q q E => ⟨z, rfl, by omega, q⟩
open Evl in
theorem ev_isLit {σ : L2.St} {H : Hp} {te : TE} {z : Str} {E : XK} (h : Ev te σ H (.str z)) (hz : z.cps.size ≤ 50) : Ev (tCall spIsLit [] E (tCons te tNil)) σ H (.bl (isLit z)) := ev_call (ea_cons h ea_nil) fun H1 _ Q q E => ⟨z, rfl, by omega, q⟩
open Evl in
theorem ev_lit {C : Addr} {g : Str → V} {σ : L2.St} {H : Hp} {te : TE} {z : Str} {E : XK} (h : Ev te σ H (.str z)) (hz : z.cps.size ≤ 50) (hc : ∀ c ∈ z.cps.toList, c < 128) (hl : isLit z = true) : Ev (tCall (spLit C g) [] E (tCons te tNil)) σ H (g z) :=
  ev_call (ea_cons h ea_nil) fun H1 _ Q q E => ⟨z, rfl, hz, hc, fun _ => q, fun x => absurd (hl.symm.trans x) (by decide)⟩
open Evl in
theorem ev_same {σ : L2.St} {H : Hp} {ta tb : TE} {x y : V} {E : XK} (ha : Ev ta σ H x) (hb : Ev tb σ H y) (hx : flat4 x = true) (hy : flat4 y = true) : Ev (tCall spSame [] E (tCons ta (tCons tb tNil))) σ H (.bl (decide (x = y))) :=
  ev_call (ea_cons ha (ea_cons hb ea_nil)) fun H1 _ Q q E => ⟨x, y, rfl, hx, hy, q⟩
open Evl in
theorem ev_sameT {σ : L2.St} {H : Hp} {ta tb : TE} {x y : V} {E : XK} (ha : Ev ta σ H x) (hb : Ev tb σ H y) (hx : flat4 x = true) (hy : flat4 y = true) (e : x = y) : Ev (tCall spSame [] E (tCons ta (tCons tb tNil))) σ H (.bl true) :=
  ev_is (ev_same ha hb hx hy) (by rw [decide_eq_true e])
open Evl in
theorem ok__law_answers (T : Txt P K mg) : FnOk P w K mg base CX0 8 T.f__law_answers T.d__law_answers ["_law_text"] spAnswers := by
  refine T.F__law_answers.ok sc__law_answers (fun vs H Q E h => ?_) (fun cdv A outer s H vs Q E hr h => ?_)
  · obtain ⟨z, rfl, _⟩ := h
    rfl
  · obtain ⟨z, rfl, hz, hc, q⟩ := h
    have hb := Nat.le_trans (bare_len z) hz
    refine ⟨_, (pss_cons (ps_set (i := 1) sc__law_answers.nd rfl (.inl rfl) (pe_call (ok__law_name T) (hr.mono (by decide)) rfl T.g__law_name T.F__law_name.kp T.b__law_name .nil pass0 (pa_cons (pv 0) pa_nil)))
      (pss_cons (ps_if (PW.pt (pw_or (pt_not (pt_val (pe_call (ok__law_same T) (hr.mono (by decide)) rfl T.g__law_same T.F__law_same.kp T.b__law_same .nil pass0 (pa_cons (pe_call (ok_is_name T) (hr.mono (by decide)) rfl T.g_is_name T.F_is_name.kp T.b_is_name .nil pass0 (pa_cons (pv 0) pa_nil)) (pa_cons (pe_call (ok__law_is_name T) (hr.mono (by decide)) rfl T.g__law_is_name T.F__law_is_name.kp T.b__law_is_name .nil pass0 (pa_cons (pv 0) pa_nil)) pa_nil))))) (pw_or1 (pt_not (pt_val (pe_call (ok__law_same T) (hr.mono (by decide)) rfl T.g__law_same T.F__law_same.kp T.b__law_same .nil pass0 (pa_cons (pe_call (ok_is_literal T) (hr.mono (by decide)) rfl T.g_is_literal T.F_is_literal.kp T.b_is_literal .nil pass0 (pa_cons (pv 0) pa_nil)) (pa_cons (pe_call (ok__law_is_name T) (hr.mono (by decide)) rfl T.g__law_is_name T.F__law_is_name.kp T.b__law_is_name .nil pass0 (pa_cons (pv 1) pa_nil)) pa_nil)))))))) (pss_one (ps_ret pe_bl)) pss_nil)
      (pss_cons (ps_if (pt_not (pt_val (pe_call (ok__law_is_name T) (hr.mono (by decide)) rfl T.g__law_is_name T.F__law_is_name.kp T.b__law_is_name .nil pass0 (pa_cons (pv 1) pa_nil)))) (pss_one (ps_ret (pe_callB (cr_all rfl) (by rfl) T.n_all (by decide +kernel) (pa_cons (pe_lc (own := [("_law_deed", 2)]) (g := gName 2) (by rfl) sc__law_answers.nd (pi_range1 rfl T.n_range (pa_cons pe_int pa_nil)) (blkOk_by (own := [("_law_deed", 2)]) (N := N__law_answers) (sc := defScope s__law_answers) (by decide +kernel)) (fun _ _ _ _ _ => pg_name (i := 2) sc__law_answers.nd rfl (Or.inl rfl)) (fun _ _ _ _ _ => pts_nil) (fun _ _ _ _ _ => (pe_call (ok__law_refuses T) (hr.mono (by decide)) rfl T.g__law_refuses T.F__law_refuses.kp T.b__law_refuses .nil pass0 (pa_cons (pv 2) (pa_cons (pv 0) pa_nil))))) pa_nil)))) pss_nil)
      (pss_cons (ps_if (PW.pt (pw_or (pt_not (pt_val (pe_call (ok__law_same T) (hr.mono (by decide)) rfl T.g__law_same T.F__law_same.kp T.b__law_same .nil pass0 (pa_cons (pe_call (ok_name_of T) (hr.mono (by decide)) rfl T.g_name_of T.F_name_of.kp T.b_name_of .nil passN (pa_cons (pv 0) pa_nil)) (pa_cons (pv 1) pa_nil))))) (pw_or1 (pt_not (pt_val (pe_call (ok__law_same T) (hr.mono (by decide)) rfl T.g__law_same T.F__law_same.kp T.b__law_same .nil pass0 (pa_cons (pe_call (ok_is_positive T) (hr.mono (by decide)) rfl T.g_is_positive T.F_is_positive.kp T.b_is_positive .nil passN (pa_cons (pv 0) pa_nil)) (pa_cons (pe_cmpR op_eq (pv 1) (pv 0) (nomark _)) pa_nil)))))))) (pss_one (ps_ret pe_bl)) pss_nil)
      (pss_one (ps_ret (pe_call (ok__law_same T) (hr.mono (by decide)) rfl T.g__law_same T.F__law_same.kp T.b__law_same .nil pass0 (pa_cons (pe_call (ok_negated T) (hr.mono (by decide)) rfl T.g_negated T.F_negated.kp T.b_negated .nil passN (pa_cons (pv 0) pa_nil)) (pa_cons (pe_call (ok__law_flip T) (hr.mono (by decide)) rfl T.g__law_flip T.F__law_flip.kp T.b__law_flip .nil pass0 (pa_cons (pv 0) pa_nil)) pa_nil))))))))), ?_⟩
    refine q_asg (ev_pure (ev_var rfl) hz) (fun H1 e1 => ?_)
    refine q_when (b := false) (et_is (et_or (a := false) (b := false) (et_is (et_not (et_B (ev_sameT (ev_isName (ev_var rfl) hz) (ev_isName (ev_var rfl) hz) rfl rfl rfl))) rfl) (fun _ => et_is (et_not (et_B (ev_sameT (ev_isLit (ev_var rfl) hz) (ev_isName (ev_var rfl) hb) rfl rfl rfl))) rfl)) rfl) (fun x => by cases x) (fun _ H2 e2 => ?_)
    refine q_when (et_not (et_B (ev_isName (ev_var rfl) hb))) (fun hl H3 e3 => ?_) (fun hl H3 e3 => ?_)
    · have hl2 : isLit z = false := by
        rw [Bool.not_eq_true'] at hl
        exact hl
      have vl : EvL (tLc (iRng1 (tCons (tC (.int 3)) tNil)) (gName 2) tYes (tCall spRefuses [] E0 (tCons (tVar 2) (tCons (tVar 0) tNil))) [2]) [some (.str z), some (.str (bare z)), none] H3 (given (3 : Int).toNat (fun _ => true) (fun _ => V.bl true)) :=
        el_lcR1 (fun _ => true) (fun _ => V.bl true) (ea_cons ev_c ea_nil) (by decide) (fun _ => rfl) (fun i H4 _ _ H5 _ Q q => q H5 (Ex.refl H5)) (fun i H4 _ _ _ => ev_call (ea_cons (ev_var rfl) (ea_cons (ev_var rfl) ea_nil)) fun H5 _ Q q E => ⟨_, z, rfl, hz, hc, hl2, q⟩)
      exact s_ret (ev_is (ev_all (bs := [true, true, true]) vl) rfl) fun H4 e4 => q H4 (((e1.trans e2).trans e3).trans e4)
    · have hl2 : isLit z = true := by
        rw [Bool.not_eq_false'] at hl
        exact hl
      refine q_when (b := false) (et_is (et_or (a := false) (b := false) (et_is (et_not (et_B (ev_sameT (ev_lit (ev_var rfl) hz hc hl2) (ev_var rfl) rfl rfl rfl))) rfl) (fun _ => et_is (et_not (et_B (ev_sameT (ev_lit (ev_var rfl) hz hc hl2) (ev_op (ev_var rfl) (ev_var rfl) (rv_eq rfl)) rfl rfl ?_))) rfl)) rfl) (fun x => by cases x) (fun _ H4 e4 => ?_)
      · have e : decide (V.str (bare z) = V.str z) = !dash z := by
          rw [← bare_same z]
          exact decide_eq_decide.mpr ⟨fun x => V.str.inj x, fun x => congrArg V.str x⟩
        rw [e]
      · exact s_ret (ev_sameT (ev_lit (ev_var rfl) hz hc hl2) (ev_pure (ev_var rfl) hz) rfl rfl rfl) fun H5 e5 => q H5 ((((e1.trans e2).trans e3).trans e4).trans e5)
/-- _law_string(source): some text of at most 17 signs -/
def spString : Sp := fun vs H Q _ => ∃ a : Addr, vs = [.ref a] ∧ Src H a ∧ ∀ H' z, Txt8 40 z → Src H' a → But a H H' → Q (.str z) H'
theorem ok__law_string (T : Txt P K mg) : FnOk P w K mg base CX0 3 T.f__law_string T.d__law_string ["_law_source_here"] spString := by
  refine T.F__law_string.ok sc__law_string (fun vs H Q E h => ?_) (fun cdv A outer s H vs Q E hr h => ?_)
  · obtain ⟨a, rfl, _⟩ := h
    rfl
  · obtain ⟨a, rfl, S, q⟩ := h
    refine ⟨_, (pss_cons (ps_set (i := 1) sc__law_string.nd rfl (.inl rfl) (pe_call (ok__law_take T) (hr.mono (by decide)) rfl T.g__law_take T.F__law_take.kp T.b__law_take .nil pass0 (pa_cons (pv 0) (pa_cons pe_int pa_nil))))
      (pss_cons (ps_set (i := 2) sc__law_string.nd rfl (.inl rfl) (pe_ix ix_list (pe_lst (pa_cons pe_str (pa_cons pe_str pa_nil))) (pe_call (ok__law_take T) (hr.mono (by decide)) rfl T.g__law_take T.F__law_take.kp T.b__law_take .nil pass0 (pa_cons (pv 0) (pa_cons pe_int pa_nil))) (fun _ _ => rfl)))
      (pss_cons (ps_set (i := 3) sc__law_string.nd rfl (.inl rfl) (pe_op op_add_str (pv 2) (pe_call (ok__law_word T) (hr.mono (by decide)) rfl T.g__law_word T.F__law_word.kp T.b__law_word .nil pass0 (pa_cons (pv 0) (pa_cons (pe_op op_add pe_int (pe_call (ok__law_take T) (hr.mono (by decide)) rfl T.g__law_take T.F__law_take.kp T.b__law_take .nil pass0 (pa_cons (pv 0) (pa_cons pe_int pa_nil)))) pa_nil)))))
      (pss_cons (ps_set (i := 4) sc__law_string.nd rfl (.inl rfl) (pe_call (ok__law_take T) (hr.mono (by decide)) rfl T.g__law_take T.F__law_take.kp T.b__law_take .nil pass0 (pa_cons (pv 0) (pa_cons (pe_op op_add (pe_callB call_len_str (by rfl) T.n_len PySem.boot_len (pa_cons (pv 3) pa_nil)) pe_int) pa_nil))))
      (pss_cons (ps_if (pt_cmpR op_eq (pv 1) pe_int (nomark _)) (pss_one (ps_ret (pe_op op_add_str (pe_op op_add_str (pv 2) (pe_call (ok__law_word T) (hr.mono (by decide)) rfl T.g__law_word T.F__law_word.kp T.b__law_word .nil pass0 (pa_cons (pv 0) (pa_cons pe_int pa_nil)))) (pe_slice sl_str (pe_call (ok__law_word T) (hr.mono (by decide)) rfl T.g__law_word T.F__law_word.kp T.b__law_word .nil pass0 (pa_cons (pv 0) (pa_cons pe_int pa_nil))) po_none (po_some (pe_call (ok__law_take T) (hr.mono (by decide)) rfl T.g__law_take T.F__law_take.kp T.b__law_take .nil pass0 (pa_cons (pv 0) (pa_cons pe_int pa_nil)))))))) pss_nil)
      (pss_cons (ps_if (pt_cmpR op_eq (pv 1) pe_int (nomark _)) (pss_one (ps_ret (pe_op op_add_str pe_str (pv 3)))) pss_nil)
      (pss_cons (ps_if (pt_cmpR op_eq (pv 1) pe_int (nomark _)) (pss_one (ps_ret (pe_op op_add_str (pe_op op_add_str (pe_slice sl_str (pv 3) po_none (po_some (pv 4))) (pe_call (ok__law_sign T) (hr.mono (by decide)) rfl T.g__law_sign T.F__law_sign.kp T.b__law_sign .nil pass0 (pa_cons (pv 0) pa_nil))) (pe_slice sl_str (pv 3) (po_some (pe_op op_add (pv 4) pe_int)) po_none)))) pss_nil)
      (pss_cons (ps_if (pt_cmpR op_eq (pv 1) pe_int (nomark _)) (pss_one (ps_ret (pe_op op_add_str (pe_op op_add_str (pe_slice sl_str (pv 3) po_none (po_some (pv 4))) (pe_call (ok__law_sign T) (hr.mono (by decide)) rfl T.g__law_sign T.F__law_sign.kp T.b__law_sign .nil pass0 (pa_cons (pv 0) pa_nil))) (pe_slice sl_str (pv 3) (po_some (pv 4)) po_none)))) pss_nil)
      (pss_cons (ps_if (pt_cmpR op_eq (pv 1) pe_int (nomark _)) (pss_one (ps_ret (pe_op op_add_str (pv 3) (pe_ix ix_list (pe_lst (pa_cons pe_str (pa_cons pe_str (pa_cons pe_str (pa_cons pe_str pa_nil))))) (pe_call (ok__law_take T) (hr.mono (by decide)) rfl T.g__law_take T.F__law_take.kp T.b__law_take .nil pass0 (pa_cons (pv 0) (pa_cons pe_int pa_nil))) (fun _ _ => rfl))))) pss_nil)
      (pss_cons (ps_if (pt_cmpR op_eq (pv 1) pe_int (nomark _)) (pss_one (ps_ret (pe_slice sl_str (pv 3) po_none (po_some (pv 4))))) pss_nil)
      (pss_cons (ps_if (pt_cmpR op_eq (pv 1) pe_int (nomark _)) (pss_cons (ps_set (i := 3) sc__law_string.nd rfl (.inl rfl) pe_str)
      (pss_one (ps_for PassesOwn.never rfl (pi_range1 rfl T.n_range (pa_cons (pv 4) pa_nil)) (pg_name (i := 5) sc__law_string.nd rfl (.inl rfl)) (pss_one (ps_set (i := 3) sc__law_string.nd rfl (.inl rfl) (pe_op op_add_str (pv 3) (pe_call (ok__law_sign T) (hr.mono (by decide)) rfl T.g__law_sign T.F__law_sign.kp T.b__law_sign .nil pass0 (pa_cons (pv 0) pa_nil)))))))) pss_nil)
      (pss_one (ps_ret (pv 3)))))))))))))), ?_⟩
    -- shape
    refine ⟨.ref a, rfl, a, 8, rfl, S, by decide, by decide, fun H1 sh s0 s1 S1 B1 => ?_⟩
    -- dash
    refine ⟨(by show 2 ≤ sizeLine; decide), fun p hp => ⟨.ref a, rfl, a, 2, rfl, S1.new hp, by decide, by decide, fun H2 r r0 r1 S2 B2 => ?_⟩⟩
    have pa : p ≠ a := fun e => by
      obtain ⟨o, ho⟩ := S1.some
      rw [← e, hp] at ho
      cases ho
    have hp2 : H2 p = some (.lst [.str "", .str "-"]) := B2 p _ pa upd_same
    obtain ⟨ds, hds, td⟩ : ∃ ds : Str, ([V.str "", .str "-"] : List V)[r.toNat]? = some (.str ds) ∧ Txt8 1 ds := by
      have h2 : r = 0 ∨ r = 1 := by omega
      rcases h2 with rfl | rfl
      · exact ⟨"", rfl, by decide, by decide⟩
      · exact ⟨"-", rfl, by decide, by decide⟩
    have B12 : But a H H2 := B1.trans (fun b o n e => B2 b o n (by
      rw [upd_ne (ne_of_none e hp)]
      exact e))
    refine ⟨p, _, r, _, rfl, rfl, SqL.of hp2, at_of (by omega) hds, ?_⟩
    -- text
    refine ⟨_, rfl, .ref a, rfl, .ref a, rfl, a, 8, rfl, S2, by decide, by decide, fun H3 n n0 n1 S3 B3 => ⟨_, _, rfl, rfl, a, 1 + n, rfl, S3, by omega, by omega, fun H4 wd tw S4 B4 => ?_⟩⟩
    have tt : Txt8 9 (ds ++ wd) := (td.app tw).mono (by decide)
    have B14 : But a H H4 := (B12.trans B3).trans B4
    have len : ∀ {m : Nat} {x : Str}, Txt8 m x → x.length ≤ m := fun h => h.1
    refine ⟨_, _, rfl, rfl, line_of (by have := len td; have := len tw; omega), ?_⟩
    -- at
    refine ⟨.ref a, rfl, _, rfl, _, rfl, line_of (by have := len tt; omega), _, _, rfl, rfl, a, _, rfl, S4, (by omega), (by have := len tt; omega), fun H5 at_ t0 t1 S5 B5 => ?_⟩
    have B15 := B14.trans B5
    have atL : at_ ≤ 9 := by
      have h1 := len tt
      omega
    -- the shapes
    refine ⟨_, rfl, rfl, _, rfl, ite2 (fun e => ?_) (fun e => ?_)⟩
    · refine ⟨_, rfl, .ref a, rfl, a, 8, rfl, S5, by decide, by decide, fun H6 w1 tw1 S6 B6 => ⟨_, _, rfl, rfl, line_of (by have := len td; have := len tw1; omega), .ref a, rfl, a, 2, rfl, S6, by decide, by decide, fun H7 w2 tw2 S7 B7 => ?_⟩⟩
      refine ⟨.ref a, rfl, a, 3, rfl, S7, by decide, by decide, fun H8 c c0 c1 S8 B8 => ⟨_, rfl, w2, rfl, line_of (by have := len tw2; omega), ?_⟩⟩
      have tc := tw2.cut none (some c)
      refine ⟨_, _, rfl, rfl, line_of ?_, q _ _ (((td.app tw1).app tc).mono (by decide)) S8 (((B15.trans B6).trans B7).trans B8)⟩
      have h1 := len (td.app tw1)
      have h2 := len tc
      omega
    refine ⟨_, rfl, rfl, _, rfl, ite2 (fun e => ?_) (fun e => ?_)⟩
    · refine ⟨_, rfl, _, _, rfl, rfl, line_of ?_, q _ _ ?_ S5 B15⟩
      · have h1 := len tt
        have h2 : ("-" : Str).length = 1 := by decide
        omega
      · exact ((show Txt8 1 "-" from ⟨by decide, by decide⟩).app tt).mono (by decide)
    refine ⟨_, rfl, rfl, _, rfl, ite2 (fun e => ?_) (fun e => ?_)⟩
    · refine ⟨_, rfl, _, rfl, _, rfl, _, rfl, line_of (by have := len tt; omega), .ref a, rfl, a, rfl, S5, fun H6 sg tsg S6 B6 => ?_⟩
      have tc := tt.cut none (some at_)
      have td2 := tt.cut (some (at_ + 1)) none
      have l1 := len tc
      have l2 := len tsg
      have l3 := len td2
      have l4 := len (tc.app tsg)
      refine ⟨_, _, rfl, rfl, line_of (by omega), _, rfl, _, rfl, _, _, rfl, rfl, _, rfl, _, rfl, line_of (by have := len tt; omega), _, _, rfl, rfl, line_of (by omega), q _ _ (((tc.app tsg).app td2).mono (by decide)) S6 (B15.trans B6)⟩
    refine ⟨_, rfl, rfl, _, rfl, ite2 (fun e => ?_) (fun e => ?_)⟩
    · refine ⟨_, rfl, _, rfl, _, rfl, _, rfl, line_of (by have := len tt; omega), .ref a, rfl, a, rfl, S5, fun H6 sg tsg S6 B6 => ?_⟩
      have tc := tt.cut none (some at_)
      have td2 := tt.cut (some at_) none
      have l1 := len tc
      have l2 := len tsg
      have l3 := len td2
      have l4 := len (tc.app tsg)
      refine ⟨_, _, rfl, rfl, line_of (by omega), _, rfl, _, rfl, _, rfl, _, rfl, line_of (by have := len tt; omega), _, _, rfl, rfl, line_of (by omega), q _ _ (((tc.app tsg).app td2).mono (by decide)) S6 (B15.trans B6)⟩
    refine ⟨_, rfl, rfl, _, rfl, ite2 (fun e => ?_) (fun e => ?_)⟩
    · refine ⟨_, rfl, (by show 4 ≤ sizeLine; decide), fun p2 hp2 => ⟨.ref a, rfl, a, 4, rfl, S5.new hp2, by decide, by decide, fun H6 r r0 r1 S6 B6 => ?_⟩⟩
      have pa2 : p2 ≠ a := fun e => by
        obtain ⟨o, ho⟩ := S5.some
        rw [← e, hp2] at ho
        cases ho
      obtain ⟨y, hy, ty⟩ : ∃ y : Str, ([V.str "\n", .str " ", .str "-", .str "0"] : List V)[r.toNat]? = some (.str y) ∧ Txt8 1 y := by
        have h2 : r = 0 ∨ r = 1 ∨ r = 2 ∨ r = 3 := by omega
        rcases h2 with rfl | rfl | rfl | rfl
        · exact ⟨"\n", rfl, by decide, by decide⟩
        · exact ⟨" ", rfl, by decide, by decide⟩
        · exact ⟨"-", rfl, by decide, by decide⟩
        · exact ⟨"0", rfl, by decide, by decide⟩
      refine ⟨p2, _, r, _, rfl, rfl, SqL.of (B6 p2 _ pa2 upd_same), at_of (by omega) hy, _, _, rfl, rfl, line_of (by have := len tt; have := len ty; omega), q _ _ ((tt.app ty).mono (by decide)) S6 (B15.trans fun b o n e => B6 b o n (by
        rw [upd_ne (ne_of_none e hp2)]
        exact e))⟩
    refine ⟨_, rfl, rfl, _, rfl, ite2 (fun e => ?_) (fun e => ?_)⟩
    · exact ⟨_, rfl, _, rfl, _, rfl, _, rfl, line_of (by have := len tt; omega), q _ _ ((tt.cut none (some at_)).mono (by decide)) S5 B15⟩
    refine ⟨_, rfl, rfl, _, rfl, ite2 (fun e => ?_) (fun e => ?_)⟩
    · refine ⟨_, rfl, at_, rfl, by omega, by omega, for_range (lo := 0) (n := at_.toNat) (fun i σ H' => ∃ (z : Str) (v : Option V), σ = [some (.ref a), some (.int sh), some (.str ds), some (.str z), some (.int at_), v] ∧ Txt8 i z ∧ Src H' a ∧ But a H H') ⟨_, _, rfl, ⟨by decide, by decide⟩, S5, B15⟩ ?_ ?_⟩
      · rintro i σ H' hi ⟨z, v, rfl, tz, S6, B6⟩
        refine ⟨_, rfl, .ref a, rfl, a, rfl, S6, fun H7 sg tsg S7 B7 => ⟨_, _, rfl, rfl, line_of (by have := len tz; have := len tsg; omega), ?_⟩⟩
        exact ⟨_, _, rfl, tz.app tsg, S7, B6.trans B7⟩
      · rintro σ H' ⟨z, v, rfl, tz, S6, B6⟩
        exact ⟨_, rfl, q _ _ (tz.mono (by omega)) S6 B6⟩
    · exact ⟨_, rfl, q _ _ (tt.mono (by decide)) S5 B15⟩
theorem ok_law (T : Txt P K mg) : FnOk P w K mg base CX0 9 T.f_law T.d_law ["_law_script"] (spLaw K) := by
  refine T.F_law.ok sc_law (fun vs H Q E h => ?_) (fun cdv A outer s H vs Q E hr h => ?_)
  · obtain ⟨a, ns, rfl, _⟩ := h
    rfl
  · obtain ⟨a, ns, rfl, hS, hl, q⟩ := h
    refine ⟨_, (pss_cons (ps_set (i := 1) sc_law.nd rfl (.inl rfl) (pe_call (ok__law_source T) (hr.mono (by decide)) rfl T.g__law_source T.F__law_source.kp T.b__law_source .nil pass0 (pa_cons (pv 0) pa_nil)))
      (pss_cons (ps_for PassesOwn.never rfl (pi_range1 rfl T.n_range (pa_cons pe_int pa_nil)) (pg_name (i := 2) sc_law.nd rfl (.inl rfl)) (pss_one (ps_if (pt_not (pt_val (pe_call (ok__law_answers T) (hr.mono (by decide)) rfl T.g__law_answers T.F__law_answers.kp T.b__law_answers .nil pass0 (pa_cons (pe_call (ok__law_string T) (hr.mono (by decide)) rfl T.g__law_string T.F__law_string.kp T.b__law_string .nil pass0 (pa_cons (pv 1) pa_nil)) pa_nil)))) (pss_one (ps_ret pe_bl)) pss_nil)))
      (pss_one (ps_ret pe_bl)))), ?_⟩
    refine ⟨_, rfl, a, ns, rfl, hS, fun H1 p S1 np s1 => ?_⟩
    refine ⟨4, rfl, by decide, by decide, for_range (lo := 0) (n := 4) (fun i σ H' => ∃ v : Option V, σ = [some (.ref a), some (.ref p), v] ∧ Src H' p) ⟨_, rfl, S1⟩ ?_ ?_⟩
    · rintro i σ H' hi ⟨v, rfl, S2⟩
      refine ⟨_, rfl, p, rfl, S2, fun H2 z tz S3 B3 => ⟨z, rfl, Nat.le_trans tz.1 (by decide), tz.2, fun H3 e3 => ⟨_, rfl, iteF ?_⟩⟩⟩
      exact ⟨_, rfl, S3.keep e3⟩
    · rintro σ H' ⟨v, rfl, S2⟩
      exact q H'

end
theorem all_mk {l : PySem.W.OpenLaw} {w : World} {K : PySem.W.Frag} {h : Heap} {mg : Str → Option Value} {fa : Addr} (X : K.In h) (G : h.Ns mainGlobals mg) (hfa : mg "law" = some (.ref fa))
    {f0 f1 f2 f3 f4 f5 f6 f7 f8 f9 f10 f11 f12 f13 f14 f15 f16 f17 C_HornError C_BadName i_BadName cda1 cc1 C_BadLiteral i_BadLiteral cda2 cc2 : Addr} {od0 an0 od1 an1 od2 an2 od3 an3 od4 an4 od5 an5 od6 an6 od7 an7 od8 an8 od9 an9 od10 an10 od11 an11 od12 an12 od13 an13 od14 an14 od15 an15 od16 an16 od17 an17 : Option Addr} {sl0 sl1 sl2 sl3 sl4 sl5 sl6 sl7 sl8 sl9 sl10 sl11 sl12 sl13 sl14 sl15 sl16 sl17 : Array (Option Value)} {oc0 kV0 dc0 pm0 cd0 ct0 oc1 kV1 dc1 pm1 cd1 ct1 oc2 kV2 dc2 pm2 cd2 ct2 oc3 kV3 dc3 pm3 cd3 ct3 oc4 kV4 dc4 pm4 cd4 ct4 oc5 kV5 dc5 pm5 cd5 ct5 oc6 kV6 dc6 pm6 cd6 ct6 oc7 kV7 dc7 pm7 cd7 ct7 oc8 kV8 dc8 pm8 cd8 ct8 oc9 kV9 dc9 pm9 cd9 ct9 oc10 kV10 dc10 pm10 cd10 ct10 oc11 kV11 dc11 pm11 cd11 ct11 oc12 kV12 dc12 pm12 cd12 ct12 oc13 kV13 dc13 pm13 cd13 ct13 oc14 kV14 dc14 pm14 cd14 ct14 oc15 kV15 dc15 pm15 cd15 ct15 oc16 kV16 dc16 pm16 cd16 ct16 oc17 kV17 dc17 pm17 cd17 ct17 : Value} {tk0 tk1 tk2 : Tok}
    {n_1 q_1 : Str} {N_1 : Addr} {bs_1 bm_1 : List Value} {sn_1 : List Str} {sub_1 : List Value} {ab_1 : Bool} {col_1 : Option Bool} {dd_1 : Option Addr} {w0_1 w1_1 w2_1 w3_1 w5_1 : Option Value} {oce_1 dce_1 pme_1 cte_1 ccl_1 cl_1 : Value} {ode_1 ane_1 cdd_1 cld_1 : Option Addr} {sle_1 ccs_1 csl_1 : Array (Option Value)} {vs_1 : Array Value} {file_1 : Str} {tf_1 : Tok}
    {n_2 q_2 : Str} {N_2 : Addr} {bs_2 bm_2 : List Value} {sn_2 : List Str} {sub_2 : List Value} {ab_2 : Bool} {col_2 : Option Bool} {dd_2 : Option Addr} {w0_2 w1_2 w2_2 w3_2 w5_2 : Option Value} {oce_2 dce_2 pme_2 cte_2 ccl_2 cl_2 : Value} {ode_2 ane_2 cdd_2 cld_2 : Option Addr} {sle_2 ccs_2 csl_2 : Array (Option Value)} {vs_2 : Array Value} {file_2 : Str} {tf_2 : Tok}
    (a0 : PySem.W.nsIn K mainGlobals "is_name" = some (some (.ref f0)))
    (l0 : K.lookup f0 = some ⟨oc0, od0, .func (PySem.W.fnOf "is_name" "is_name" (defArgs s_is_name) (defBody s_is_name) (defScope s_is_name) .none kV0 dc0 pm0 an0 cd0 ct0), sl0⟩)
    (c0 : PySem.W.codeIn K cd0 "is_name" = true)
    (k0 : PySem.W.keepIn K (.ref f0) = true)
    (a1 : PySem.W.nsIn K mainGlobals "is_literal" = some (some (.ref f1)))
    (l1 : K.lookup f1 = some ⟨oc1, od1, .func (PySem.W.fnOf "is_literal" "is_literal" (defArgs s_is_literal) (defBody s_is_literal) (defScope s_is_literal) .none kV1 dc1 pm1 an1 cd1 ct1), sl1⟩)
    (c1 : PySem.W.codeIn K cd1 "is_literal" = true)
    (k1 : PySem.W.keepIn K (.ref f1) = true)
    (a2 : PySem.W.nsIn K mainGlobals "check_literal" = some (some (.ref f2)))
    (l2 : K.lookup f2 = some ⟨oc2, od2, .func (PySem.W.fnOf "check_literal" "check_literal" (defArgs s_check_literal) (defBody s_check_literal) (defScope s_check_literal) .none kV2 dc2 pm2 an2 cd2 ct2), sl2⟩)
    (c2 : PySem.W.codeIn K cd2 "check_literal" = true)
    (k2 : PySem.W.keepIn K (.ref f2) = true)
    (a3 : PySem.W.nsIn K mainGlobals "name_of" = some (some (.ref f3)))
    (l3 : K.lookup f3 = some ⟨oc3, od3, .func (PySem.W.fnOf "name_of" "name_of" (defArgs s_name_of) (defBody s_name_of) (defScope s_name_of) .none kV3 dc3 pm3 an3 cd3 ct3), sl3⟩)
    (c3 : PySem.W.codeIn K cd3 "name_of" = true)
    (k3 : PySem.W.keepIn K (.ref f3) = true)
    (a4 : PySem.W.nsIn K mainGlobals "is_positive" = some (some (.ref f4)))
    (l4 : K.lookup f4 = some ⟨oc4, od4, .func (PySem.W.fnOf "is_positive" "is_positive" (defArgs s_is_positive) (defBody s_is_positive) (defScope s_is_positive) .none kV4 dc4 pm4 an4 cd4 ct4), sl4⟩)
    (c4 : PySem.W.codeIn K cd4 "is_positive" = true)
    (k4 : PySem.W.keepIn K (.ref f4) = true)
    (a5 : PySem.W.nsIn K mainGlobals "negated" = some (some (.ref f5)))
    (l5 : K.lookup f5 = some ⟨oc5, od5, .func (PySem.W.fnOf "negated" "negated" (defArgs s_negated) (defBody s_negated) (defScope s_negated) .none kV5 dc5 pm5 an5 cd5 ct5), sl5⟩)
    (c5 : PySem.W.codeIn K cd5 "negated" = true)
    (k5 : PySem.W.keepIn K (.ref f5) = true)
    (a6 : PySem.W.nsIn K mainGlobals "_law_source" = some (some (.ref f6)))
    (l6 : K.lookup f6 = some ⟨oc6, od6, .func (PySem.W.fnOf "_law_source" "_law_source" (defArgs s__law_source) (defBody s__law_source) (defScope s__law_source) .none kV6 dc6 pm6 an6 cd6 ct6), sl6⟩)
    (c6 : PySem.W.codeIn K cd6 "_law_source" = true)
    (k6 : PySem.W.keepIn K (.ref f6) = true)
    (a7 : PySem.W.nsIn K mainGlobals "_law_take" = some (some (.ref f7)))
    (l7 : K.lookup f7 = some ⟨oc7, od7, .func (PySem.W.fnOf "_law_take" "_law_take" (defArgs s__law_take) (defBody s__law_take) (defScope s__law_take) .none kV7 dc7 pm7 an7 cd7 ct7), sl7⟩)
    (c7 : PySem.W.codeIn K cd7 "_law_take" = true)
    (k7 : PySem.W.keepIn K (.ref f7) = true)
    (a8 : PySem.W.nsIn K mainGlobals "_law_word" = some (some (.ref f8)))
    (l8 : K.lookup f8 = some ⟨oc8, od8, .func (PySem.W.fnOf "_law_word" "_law_word" (defArgs s__law_word) (defBody s__law_word) (defScope s__law_word) .none kV8 dc8 pm8 an8 cd8 ct8), sl8⟩)
    (c8 : PySem.W.codeIn K cd8 "_law_word" = true)
    (k8 : PySem.W.keepIn K (.ref f8) = true)
    (a9 : PySem.W.nsIn K mainGlobals "_law_flip" = some (some (.ref f9)))
    (l9 : K.lookup f9 = some ⟨oc9, od9, .func (PySem.W.fnOf "_law_flip" "_law_flip" (defArgs s__law_flip) (defBody s__law_flip) (defScope s__law_flip) .none kV9 dc9 pm9 an9 cd9 ct9), sl9⟩)
    (c9 : PySem.W.codeIn K cd9 "_law_flip" = true)
    (k9 : PySem.W.keepIn K (.ref f9) = true)
    (a10 : PySem.W.nsIn K mainGlobals "_law_name" = some (some (.ref f10)))
    (l10 : K.lookup f10 = some ⟨oc10, od10, .func (PySem.W.fnOf "_law_name" "_law_name" (defArgs s__law_name) (defBody s__law_name) (defScope s__law_name) .none kV10 dc10 pm10 an10 cd10 ct10), sl10⟩)
    (c10 : PySem.W.codeIn K cd10 "_law_name" = true)
    (k10 : PySem.W.keepIn K (.ref f10) = true)
    (a11 : PySem.W.nsIn K mainGlobals "_law_same" = some (some (.ref f11)))
    (l11 : K.lookup f11 = some ⟨oc11, od11, .func (PySem.W.fnOf "_law_same" "_law_same" (defArgs s__law_same) (defBody s__law_same) (defScope s__law_same) .none kV11 dc11 pm11 an11 cd11 ct11), sl11⟩)
    (c11 : PySem.W.codeIn K cd11 "_law_same" = true)
    (k11 : PySem.W.keepIn K (.ref f11) = true)
    (a12 : PySem.W.nsIn K mainGlobals "_law_sign" = some (some (.ref f12)))
    (l12 : K.lookup f12 = some ⟨oc12, od12, .func (PySem.W.fnOf "_law_sign" "_law_sign" (defArgs s__law_sign) (defBody s__law_sign) (defScope s__law_sign) .none kV12 dc12 pm12 an12 cd12 ct12), sl12⟩)
    (c12 : PySem.W.codeIn K cd12 "_law_sign" = true)
    (k12 : PySem.W.keepIn K (.ref f12) = true)
    (a13 : PySem.W.nsIn K mainGlobals "_law_string" = some (some (.ref f13)))
    (l13 : K.lookup f13 = some ⟨oc13, od13, .func (PySem.W.fnOf "_law_string" "_law_string" (defArgs s__law_string) (defBody s__law_string) (defScope s__law_string) .none kV13 dc13 pm13 an13 cd13 ct13), sl13⟩)
    (c13 : PySem.W.codeIn K cd13 "_law_string" = true)
    (k13 : PySem.W.keepIn K (.ref f13) = true)
    (a14 : PySem.W.nsIn K mainGlobals "_law_is_name" = some (some (.ref f14)))
    (l14 : K.lookup f14 = some ⟨oc14, od14, .func (PySem.W.fnOf "_law_is_name" "_law_is_name" (defArgs s__law_is_name) (defBody s__law_is_name) (defScope s__law_is_name) .none kV14 dc14 pm14 an14 cd14 ct14), sl14⟩)
    (c14 : PySem.W.codeIn K cd14 "_law_is_name" = true)
    (k14 : PySem.W.keepIn K (.ref f14) = true)
    (a15 : PySem.W.nsIn K mainGlobals "_law_refuses" = some (some (.ref f15)))
    (l15 : K.lookup f15 = some ⟨oc15, od15, .func (PySem.W.fnOf "_law_refuses" "_law_refuses" (defArgs s__law_refuses) (defBody s__law_refuses) (defScope s__law_refuses) .none kV15 dc15 pm15 an15 cd15 ct15), sl15⟩)
    (c15 : PySem.W.codeIn K cd15 "_law_refuses" = true)
    (k15 : PySem.W.keepIn K (.ref f15) = true)
    (a16 : PySem.W.nsIn K mainGlobals "_law_answers" = some (some (.ref f16)))
    (l16 : K.lookup f16 = some ⟨oc16, od16, .func (PySem.W.fnOf "_law_answers" "_law_answers" (defArgs s__law_answers) (defBody s__law_answers) (defScope s__law_answers) .none kV16 dc16 pm16 an16 cd16 ct16), sl16⟩)
    (c16 : PySem.W.codeIn K cd16 "_law_answers" = true)
    (k16 : PySem.W.keepIn K (.ref f16) = true)
    (a17 : PySem.W.nsIn K mainGlobals "law" = some (some (.ref f17)))
    (l17 : K.lookup f17 = some ⟨oc17, od17, .func (PySem.W.fnOf "law" "law" (defArgs s_law) (defBody s_law) (defScope s_law) .none kV17 dc17 pm17 an17 cd17 ct17), sl17⟩)
    (c17 : PySem.W.codeIn K cd17 "law" = true)
    (k17 : PySem.W.keepIn K (.ref f17) = true)
    (v0 : PySem.W.nsIn K mainGlobals "LETTERS" = some (some (.str "abcdefghijklmnopqrstuvwxyz" tk0)))
    (v1 : PySem.W.nsIn K mainGlobals "LETTERS_AND_DIGITS" = some (some (.str "abcdefghijklmnopqrstuvwxyz0123456789" tk1)))
    (v2 : PySem.W.nsIn K mainGlobals "LONGEST_NAME" = some (some (.int 8 tk2)))
    (eg0 : PySem.W.nsIn K mainGlobals "HornError" = some (some (.ref C_HornError)))
    (eg1 : PySem.W.nsIn K mainGlobals "BadName" = some (some (.ref C_BadName)))
    (el1 : K.lookup C_BadName = some (excClassObj n_1 q_1 C_BadName N_1 bs_1 bm_1 true sn_1 sub_1 ab_1 col_1 dd_1 w0_1 w1_1 w2_1 w3_1 w5_1 "ValueError.__new__"))
    (er1 : PySem.HandSPX.refsVE bm_1 = true)
    (esa1 : PySem.W.findIn K (.ref C_BadName) "__setattr__" = some (some (.builtin "object.__setattr__")))
    (ega1 : PySem.W.findIn K (.ref C_BadName) "__getattribute__" = some (some (.builtin "BaseException.__getattribute__")))
    (egg1 : PySem.W.findIn K (.ref C_BadName) "__getattr__" = some none)
    (ein1 : PySem.W.findIn K (.ref C_BadName) "__init__" = some (some (.ref i_BadName)))
    (ecl1 : PySem.W.findIn K (.ref C_BadName) "__class__" = some (some (.builtin "object.__class__")))
    (efn1 : PySem.W.findIn K (.ref C_BadName) "text" = some none)
    (eti1 : PySem.W.typeIn K (.ref i_BadName) = some (.type "function"))
    (ekc1 : PySem.W.keepIn K (.ref C_BadName) = true)
    (ebe1 : PySem.W.subIn K (.ref C_BadName) (.type "BaseException") = some true)
    (eve1 : PySem.W.subIn K (.ref C_BadName) (.type "ValueError") = some true)
    (ety1 : PySem.W.typeIn K (.ref C_BadName) = some (.type "type"))
    (ehd1 : PySem.W.hasDictIn K C_BadName = true)
    (eic1 : PySem.W.isClsIn K C_BadName = true)
    (ess1 : PySem.W.subIn K (.ref C_BadName) (.ref C_BadName) = some true)
    (eup1 : PySem.W.ks_superIn K C_BadName C_BadName "__init__" = some (some (.builtin "ValueError.__init__")))
    (emr1 : PySem.W.mroIn K C_BadName (.ref C_BadName) = some true)
    (emo1 : PySem.W.mroIn K C_BadName (.type "object") = some true)
    (elf1 : K.lookup i_BadName = some ⟨oce_1, ode_1, .func (PySem.W.ksFn "__init__" ("BadName" ++ ".__init__") ea_BadName eb_BadName (scope1 "text") .none .none dce_1 pme_1 ane_1 (.ref cda1) cte_1 cc1), sle_1⟩)
    (ecd1 : PySem.W.codeIn K (.ref cda1) ("BadName" ++ ".__init__") = true)
    (elc1 : K.lookup cda1 = some ⟨ccl_1, cdd_1, .fields vs_1, ccs_1⟩)
    (evs1 : vs_1[2]? = some (.str file_1 tf_1))
    (efi1 : (l.prog.main.file == file_1) = true)
    (ece1 : K.lookup cc1 = some ⟨cl_1, cld_1, .cell (some (.ref C_BadName)), csl_1⟩)
    (eg2 : PySem.W.nsIn K mainGlobals "BadLiteral" = some (some (.ref C_BadLiteral)))
    (el2 : K.lookup C_BadLiteral = some (excClassObj n_2 q_2 C_BadLiteral N_2 bs_2 bm_2 true sn_2 sub_2 ab_2 col_2 dd_2 w0_2 w1_2 w2_2 w3_2 w5_2 "ValueError.__new__"))
    (er2 : PySem.HandSPX.refsVE bm_2 = true)
    (esa2 : PySem.W.findIn K (.ref C_BadLiteral) "__setattr__" = some (some (.builtin "object.__setattr__")))
    (ega2 : PySem.W.findIn K (.ref C_BadLiteral) "__getattribute__" = some (some (.builtin "BaseException.__getattribute__")))
    (egg2 : PySem.W.findIn K (.ref C_BadLiteral) "__getattr__" = some none)
    (ein2 : PySem.W.findIn K (.ref C_BadLiteral) "__init__" = some (some (.ref i_BadLiteral)))
    (ecl2 : PySem.W.findIn K (.ref C_BadLiteral) "__class__" = some (some (.builtin "object.__class__")))
    (efn2 : PySem.W.findIn K (.ref C_BadLiteral) "text" = some none)
    (eti2 : PySem.W.typeIn K (.ref i_BadLiteral) = some (.type "function"))
    (ekc2 : PySem.W.keepIn K (.ref C_BadLiteral) = true)
    (ebe2 : PySem.W.subIn K (.ref C_BadLiteral) (.type "BaseException") = some true)
    (eve2 : PySem.W.subIn K (.ref C_BadLiteral) (.type "ValueError") = some true)
    (ety2 : PySem.W.typeIn K (.ref C_BadLiteral) = some (.type "type"))
    (ehd2 : PySem.W.hasDictIn K C_BadLiteral = true)
    (eic2 : PySem.W.isClsIn K C_BadLiteral = true)
    (ess2 : PySem.W.subIn K (.ref C_BadLiteral) (.ref C_BadLiteral) = some true)
    (eup2 : PySem.W.ks_superIn K C_BadLiteral C_BadLiteral "__init__" = some (some (.builtin "ValueError.__init__")))
    (emr2 : PySem.W.mroIn K C_BadLiteral (.ref C_BadLiteral) = some true)
    (emo2 : PySem.W.mroIn K C_BadLiteral (.type "object") = some true)
    (elf2 : K.lookup i_BadLiteral = some ⟨oce_2, ode_2, .func (PySem.W.ksFn "__init__" ("BadLiteral" ++ ".__init__") ea_BadLiteral eb_BadLiteral (scope1 "text") .none .none dce_2 pme_2 ane_2 (.ref cda2) cte_2 cc2), sle_2⟩)
    (ecd2 : PySem.W.codeIn K (.ref cda2) ("BadLiteral" ++ ".__init__") = true)
    (elc2 : K.lookup cda2 = some ⟨ccl_2, cdd_2, .fields vs_2, ccs_2⟩)
    (evs2 : vs_2[2]? = some (.str file_2 tf_2))
    (efi2 : (l.prog.main.file == file_2) = true)
    (ece2 : K.lookup cc2 = some ⟨cl_2, cld_2, .cell (some (.ref C_BadLiteral)), csl_2⟩)
    (kt0 : PySem.W.kitOne K (.ref C_BadName) (.ref C_BadName) = some true)
    (kt1 : PySem.W.kitOne K (.ref C_BadName) (.ref C_HornError) = some true)
    (kt2 : PySem.W.kitOne K (.ref C_BadName) (.type "ValueError") = some true)
    (kt3 : PySem.W.kitOne K (.ref C_BadLiteral) (.ref C_BadName) = some false)
    (kt4 : PySem.W.kitOne K (.ref C_BadLiteral) (.ref C_HornError) = some true)
    (kt5 : PySem.W.kitOne K (.ref C_BadLiteral) (.type "ValueError") = some true)
    (z0 : PySem.W.nsIn K mainGlobals "ValueError" = some none)
    (z1 : PySem.W.nsIn K mainGlobals "all" = some none)
    (z2 : PySem.W.nsIn K mainGlobals "bool" = some none)
    (z3 : PySem.W.nsIn K mainGlobals "int" = some none)
    (z4 : PySem.W.nsIn K mainGlobals "isinstance" = some none)
    (z5 : PySem.W.nsIn K mainGlobals "len" = some none)
    (z6 : PySem.W.nsIn K mainGlobals "list" = some none)
    (z7 : PySem.W.nsIn K mainGlobals "range" = some none)
    (z8 : PySem.W.nsIn K mainGlobals "str" = some none)
    (zsu : PySem.W.nsIn K mainGlobals "super" = some none)
    (z10 : PySem.W.nsIn K mainGlobals "tuple" = some none)
    (zop : PySem.W.nsIn K cStatics "thirdparty.any" = some none)
    (zsp : PySem.W.specialIn K (.builtin "object.__class__") "__get__" = some (some (.builtin "getset_descriptor.__get__")))
    (ztk : PySem.W.takesIn K (.builtin "object.__class__") = some true)
    (znm : (l.prog.main.scope.names.lookup ("super" : Str)).isSome = false)
    : ∃ fd : FuncData, (∀ (s : Shared) (v : Value), BindsTo s fd ⟨[v], []⟩ [("_law_script", v)]) ∧ ∀ base : Heap, K.In base → base.Ns mainGlobals mg → FnOk l.prog w K mg base CX0 9 fa fd ["_law_script"] (spLaw K) := by
  have e := hfa.symm.trans (PySem.W.mg_of X G a17)
  cases e
  have F0 := fun_mk (st := s_is_name) l0 c0 k0
  have b0 := F0.binds (ps := ["text"]) fun _ _ _ _ _ _ us hl => match us, hl with | [_], _ => rfl
  have F1 := fun_mk (st := s_is_literal) l1 c1 k1
  have b1 := F1.binds (ps := ["text"]) fun _ _ _ _ _ _ us hl => match us, hl with | [_], _ => rfl
  have F2 := fun_mk (st := s_check_literal) l2 c2 k2
  have b2 := F2.binds (ps := ["text"]) fun _ _ _ _ _ _ us hl => match us, hl with | [_], _ => rfl
  have F3 := fun_mk (st := s_name_of) l3 c3 k3
  have b3 := F3.binds (ps := ["literal"]) fun _ _ _ _ _ _ us hl => match us, hl with | [_], _ => rfl
  have F4 := fun_mk (st := s_is_positive) l4 c4 k4
  have b4 := F4.binds (ps := ["literal"]) fun _ _ _ _ _ _ us hl => match us, hl with | [_], _ => rfl
  have F5 := fun_mk (st := s_negated) l5 c5 k5
  have b5 := F5.binds (ps := ["literal"]) fun _ _ _ _ _ _ us hl => match us, hl with | [_], _ => rfl
  have F6 := fun_mk (st := s__law_source) l6 c6 k6
  have b6 := F6.binds (ps := ["_law_script"]) fun _ _ _ _ _ _ us hl => match us, hl with | [_], _ => rfl
  have F7 := fun_mk (st := s__law_take) l7 c7 k7
  have b7 := F7.binds (ps := ["_law_source_here", "_law_many"]) fun _ _ _ _ _ _ us hl => match us, hl with | [_, _], _ => rfl
  have F8 := fun_mk (st := s__law_word) l8 c8 k8
  have b8 := F8.binds (ps := ["_law_source_here", "_law_size"]) fun _ _ _ _ _ _ us hl => match us, hl with | [_, _], _ => rfl
  have F9 := fun_mk (st := s__law_flip) l9 c9 k9
  have b9 := F9.binds (ps := ["_law_literal"]) fun _ _ _ _ _ _ us hl => match us, hl with | [_], _ => rfl
  have F10 := fun_mk (st := s__law_name) l10 c10 k10
  have b10 := F10.binds (ps := ["_law_literal"]) fun _ _ _ _ _ _ us hl => match us, hl with | [_], _ => rfl
  have F11 := fun_mk (st := s__law_same) l11 c11 k11
  have b11 := F11.binds (ps := ["_law_one", "_law_other"]) fun _ _ _ _ _ _ us hl => match us, hl with | [_, _], _ => rfl
  have F12 := fun_mk (st := s__law_sign) l12 c12 k12
  have b12 := F12.binds (ps := ["_law_source_here"]) fun _ _ _ _ _ _ us hl => match us, hl with | [_], _ => rfl
  have F13 := fun_mk (st := s__law_string) l13 c13 k13
  have b13 := F13.binds (ps := ["_law_source_here"]) fun _ _ _ _ _ _ us hl => match us, hl with | [_], _ => rfl
  have F14 := fun_mk (st := s__law_is_name) l14 c14 k14
  have b14 := F14.binds (ps := ["_law_text"]) fun _ _ _ _ _ _ us hl => match us, hl with | [_], _ => rfl
  have F15 := fun_mk (st := s__law_refuses) l15 c15 k15
  have b15 := F15.binds (ps := ["_law_deed", "_law_text"]) fun _ _ _ _ _ _ us hl => match us, hl with | [_, _], _ => rfl
  have F16 := fun_mk (st := s__law_answers) l16 c16 k16
  have b16 := F16.binds (ps := ["_law_text"]) fun _ _ _ _ _ _ us hl => match us, hl with | [_], _ => rfl
  have F17 := fun_mk (st := s_law) l17 c17 k17
  have b17 := F17.binds (ps := ["_law_script"]) fun _ _ _ _ _ _ us hl => match us, hl with | [_], _ => rfl
  have E_BadName : Cls1 l.prog K mg "BadName" C_BadName i_BadName ea_BadName eb_BadName (scope1 "text") := { gC := PySem.W.mg_of X G eg1, cls := ⟨n_1, q_1, N_1, bs_1, bm_1, sn_1, sub_1, ab_1, col_1, dd_1, w0_1, w1_1, w2_1, w3_1, w5_1, el1, er1⟩, sa := esa1, ga := ega1, gg := egg1, iC := ein1, tC := eti1, kC := ekc1, exC := ebe1, veC := eve1, tyC := ety1, hdC := ehd1, te := exm_self ebe1 eic1 ety1 ess1, up := eup1, self := emr1, op := zop, noS := PySem.W.mg_none_of X G zsu, fn := ⟨oce_1, ode_1, dce_1, pme_1, ane_1, cda1, cc1, cte_1, sle_1, ccl_1, cl_1, cdd_1, cld_1, vs_1, ccs_1, csl_1, file_1, tf_1, elf1, ecd1, elc1, evs1, efi1, ece1⟩, noM := znm }
  have X_BadName : ExcC K C_BadName := ⟨ega1, egg1, ebe1, ehd1, ecl1, zsp, ztk, emo1⟩
  have E_BadLiteral : Cls1 l.prog K mg "BadLiteral" C_BadLiteral i_BadLiteral ea_BadLiteral eb_BadLiteral (scope1 "text") := { gC := PySem.W.mg_of X G eg2, cls := ⟨n_2, q_2, N_2, bs_2, bm_2, sn_2, sub_2, ab_2, col_2, dd_2, w0_2, w1_2, w2_2, w3_2, w5_2, el2, er2⟩, sa := esa2, ga := ega2, gg := egg2, iC := ein2, tC := eti2, kC := ekc2, exC := ebe2, veC := eve2, tyC := ety2, hdC := ehd2, te := exm_self ebe2 eic2 ety2 ess2, up := eup2, self := emr2, op := zop, noS := PySem.W.mg_none_of X G zsu, fn := ⟨oce_2, ode_2, dce_2, pme_2, ane_2, cda2, cc2, cte_2, sle_2, ccl_2, cl_2, cdd_2, cld_2, vs_2, ccs_2, csl_2, file_2, tf_2, elf2, ecd2, elc2, evs2, efi2, ece2⟩, noM := znm }
  have X_BadLiteral : ExcC K C_BadLiteral := ⟨ega2, egg2, ebe2, ehd2, ecl2, zsp, ztk, emo2⟩
  let T : Txt l.prog K mg := { f_is_name := f0, d_is_name := _, F_is_name := F0, b_is_name := b0, g_is_name := PySem.W.mg_of X G a0, f_is_literal := f1, d_is_literal := _, F_is_literal := F1, b_is_literal := b1, g_is_literal := PySem.W.mg_of X G a1, f_check_literal := f2, d_check_literal := _, F_check_literal := F2, b_check_literal := b2, g_check_literal := PySem.W.mg_of X G a2, f_name_of := f3, d_name_of := _, F_name_of := F3, b_name_of := b3, g_name_of := PySem.W.mg_of X G a3, f_is_positive := f4, d_is_positive := _, F_is_positive := F4, b_is_positive := b4, g_is_positive := PySem.W.mg_of X G a4, f_negated := f5, d_negated := _, F_negated := F5, b_negated := b5, g_negated := PySem.W.mg_of X G a5, f__law_source := f6, d__law_source := _, F__law_source := F6, b__law_source := b6, g__law_source := PySem.W.mg_of X G a6, f__law_take := f7, d__law_take := _, F__law_take := F7, b__law_take := b7, g__law_take := PySem.W.mg_of X G a7, f__law_word := f8, d__law_word := _, F__law_word := F8, b__law_word := b8, g__law_word := PySem.W.mg_of X G a8, f__law_flip := f9, d__law_flip := _, F__law_flip := F9, b__law_flip := b9, g__law_flip := PySem.W.mg_of X G a9, f__law_name := f10, d__law_name := _, F__law_name := F10, b__law_name := b10, g__law_name := PySem.W.mg_of X G a10, f__law_same := f11, d__law_same := _, F__law_same := F11, b__law_same := b11, g__law_same := PySem.W.mg_of X G a11, f__law_sign := f12, d__law_sign := _, F__law_sign := F12, b__law_sign := b12, g__law_sign := PySem.W.mg_of X G a12, f__law_string := f13, d__law_string := _, F__law_string := F13, b__law_string := b13, g__law_string := PySem.W.mg_of X G a13, f__law_is_name := f14, d__law_is_name := _, F__law_is_name := F14, b__law_is_name := b14, g__law_is_name := PySem.W.mg_of X G a14, f__law_refuses := f15, d__law_refuses := _, F__law_refuses := F15, b__law_refuses := b15, g__law_refuses := PySem.W.mg_of X G a15, f__law_answers := f16, d__law_answers := _, F__law_answers := F16, b__law_answers := b16, g__law_answers := PySem.W.mg_of X G a16, f_law := fa, d_law := _, F_law := F17, b_law := b17, g_law := PySem.W.mg_of X G a17, t_LETTERS := tk0, v_LETTERS := PySem.W.mg_of X G v0, t_LETTERS_AND_DIGITS := tk1, v_LETTERS_AND_DIGITS := PySem.W.mg_of X G v1, t_LONGEST_NAME := tk2, v_LONGEST_NAME := PySem.W.mg_of X G v2, C_HornError := C_HornError, g_HornError := PySem.W.mg_of X G eg0, C_BadName := C_BadName, i_BadName := i_BadName, E_BadName := E_BadName, x_BadName := X_BadName, o_BadName := efn1, C_BadLiteral := C_BadLiteral, i_BadLiteral := i_BadLiteral, E_BadLiteral := E_BadLiteral, x_BadLiteral := X_BadLiteral, o_BadLiteral := efn2, k_BadName_BadName := ⟨_, kt0, rfl⟩, k_BadName_HornError := ⟨_, kt1, rfl⟩, k_BadName_ValueError := ⟨_, kt2, rfl⟩, k_BadLiteral_BadName := ⟨_, kt3, rfl⟩, k_BadLiteral_HornError := ⟨_, kt4, rfl⟩, k_BadLiteral_ValueError := ⟨_, kt5, rfl⟩, n_ValueError := PySem.W.mg_none_of X G z0, n_all := PySem.W.mg_none_of X G z1, n_bool := PySem.W.mg_none_of X G z2, n_int := PySem.W.mg_none_of X G z3, n_isinstance := PySem.W.mg_none_of X G z4, n_len := PySem.W.mg_none_of X G z5, n_list := PySem.W.mg_none_of X G z6, n_range := PySem.W.mg_none_of X G z7, n_str := PySem.W.mg_none_of X G z8, n_super := PySem.W.mg_none_of X G zsu, n_tuple := PySem.W.mg_none_of X G z10 }
  exact ⟨PySem.W.fnOf "law" "law" (defArgs s_law) (defBody s_law) (defScope s_law) .none kV17 dc17 pm17 an17 cd17 ct17, fun s v => .of_eq rfl, fun base _ _ => ok_law T⟩
end Hk
open PySem PySem.W PyProof.Rows
set_option maxHeartbeats 0 in
theorem PySem.Challenge.cw_renamedhorn_k00_names_and_literals_holds : PySem.Challenge.rw_renamedhorn_k00_names_and_literals.Holds := by
  w_on; o_law; k_head; (case hw => w_witness2)
  k_fill
  refine L2.walk_of (l := PySem.Challenge.rw_renamedhorn_k00_names_and_literals) (n := 63) (k := 9) (x := "_law_script") (CX := fun _ => L2.CX0) (sp := fun w => Hk.spLaw _) rfl (by decide) rfl ⟨rfl, by decide, by decide⟩ (fun w h Y => PySem.W.kIn_of Y) ?F (fun _ _ a ns hl _ hS => ⟨a, ns, rfl, hS, hl, fun _ => rfl⟩) (fun _ _ _ _ _ h => h)
  case F =>
    intro w mg fa h KX G hmg
    refine' Hk.all_mk KX G hmg ?a0 ?l0 ?c0 ?k0 ?a1 ?l1 ?c1 ?k1 ?a2 ?l2 ?c2 ?k2 ?a3 ?l3 ?c3 ?k3 ?a4 ?l4 ?c4 ?k4 ?a5 ?l5 ?c5 ?k5 ?a6 ?l6 ?c6 ?k6 ?a7 ?l7 ?c7 ?k7 ?a8 ?l8 ?c8 ?k8 ?a9 ?l9 ?c9 ?k9 ?a10 ?l10 ?c10 ?k10 ?a11 ?l11 ?c11 ?k11 ?a12 ?l12 ?c12 ?k12 ?a13 ?l13 ?c13 ?k13 ?a14 ?l14 ?c14 ?k14 ?a15 ?l15 ?c15 ?k15 ?a16 ?l16 ?c16 ?k16 ?a17 ?l17 ?c17 ?k17 ?v0 ?v1 ?v2 ?eg0 ?eg1 ?el1 ?er1 ?esa1 ?ega1 ?egg1 ?ein1 ?ecl1 ?efn1 ?eti1 ?ekc1 ?ebe1 ?eve1 ?ety1 ?ehd1 ?eic1 ?ess1 ?eup1 ?emr1 ?emo1 ?elf1 ?ecd1 ?elc1 ?evs1 ?efi1 ?ece1 ?eg2 ?el2 ?er2 ?esa2 ?ega2 ?egg2 ?ein2 ?ecl2 ?efn2 ?eti2 ?ekc2 ?ebe2 ?eve2 ?ety2 ?ehd2 ?eic2 ?ess2 ?eup2 ?emr2 ?emo2 ?elf2 ?ecd2 ?elc2 ?evs2 ?efi2 ?ece2 ?kt0 ?kt1 ?kt2 ?kt3 ?kt4 ?kt5 ?z0 ?z1 ?z2 ?z3 ?z4 ?z5 ?z6 ?z7 ?z8 ?zsu ?z10 ?zop ?zsp ?ztk ?znm
    (case a0 => k_is); (case l0 => k_is); (case c0 => k_is); (case k0 => k_is); (case a1 => k_is); (case l1 => k_is); (case c1 => k_is); (case k1 => k_is); (case a2 => k_is); (case l2 => k_is)
    (case c2 => k_is); (case k2 => k_is); (case a3 => k_is); (case l3 => k_is); (case c3 => k_is); (case k3 => k_is); (case a4 => k_is); (case l4 => k_is); (case c4 => k_is); (case k4 => k_is)
    (case a5 => k_is); (case l5 => k_is); (case c5 => k_is); (case k5 => k_is); (case a6 => k_is); (case l6 => k_is); (case c6 => k_is); (case k6 => k_is); (case a7 => k_is); (case l7 => k_is)
    (case c7 => k_is); (case k7 => k_is); (case a8 => k_is); (case l8 => k_is); (case c8 => k_is); (case k8 => k_is); (case a9 => k_is); (case l9 => k_is); (case c9 => k_is); (case k9 => k_is)
    (case a10 => k_is); (case l10 => k_is); (case c10 => k_is); (case k10 => k_is); (case a11 => k_is); (case l11 => k_is); (case c11 => k_is); (case k11 => k_is); (case a12 => k_is)
    (case l12 => k_is); (case c12 => k_is); (case k12 => k_is); (case a13 => k_is); (case l13 => k_is); (case c13 => k_is); (case k13 => k_is); (case a14 => k_is); (case l14 => k_is)
    (case c14 => k_is); (case k14 => k_is); (case a15 => k_is); (case l15 => k_is); (case c15 => k_is); (case k15 => k_is); (case a16 => k_is); (case l16 => k_is); (case c16 => k_is)
    (case k16 => k_is); (case a17 => k_is); (case l17 => k_is); (case c17 => k_is); (case k17 => k_is); (case v0 => k_is); (case v1 => k_is); (case v2 => k_is); (case eg0 => k_is); (case eg1 => k_is)
    (case el1 => k_is); (case er1 => decide +kernel); (case esa1 => k_is); (case ega1 => k_is); (case egg1 => k_is); (case ein1 => k_is); (case ecl1 => k_is); (case efn1 => k_is); (case eti1 => k_is)
    (case ekc1 => k_is); (case ebe1 => k_is); (case eve1 => k_is); (case ety1 => k_is); (case ehd1 => k_is); (case eic1 => k_is); (case ess1 => first | rfl | k_is); (case eup1 => ks_is)
    (case emr1 => k_is); (case emo1 => k_is); (case elf1 => k_is); (case ecd1 => k_is); (case elc1 => k_is); (case evs1 => rfl); (case efi1 => first | rfl | decide +kernel); (case ece1 => k_is)
    (case eg2 => k_is); (case el2 => k_is); (case er2 => decide +kernel); (case esa2 => k_is); (case ega2 => k_is); (case egg2 => k_is); (case ein2 => k_is); (case ecl2 => k_is); (case efn2 => k_is)
    (case eti2 => k_is); (case ekc2 => k_is); (case ebe2 => k_is); (case eve2 => k_is); (case ety2 => k_is); (case ehd2 => k_is); (case eic2 => k_is); (case ess2 => first | rfl | k_is)
    (case eup2 => ks_is); (case emr2 => k_is); (case emo2 => k_is); (case elf2 => k_is); (case ecd2 => k_is); (case elc2 => k_is); (case evs2 => rfl); (case efi2 => first | rfl | decide +kernel)
    (case ece2 => k_is); (case kt0 => kit_is); (case kt1 => kit_is); (case kt2 => kit_is); (case kt3 => kit_is); (case kt4 => kit_is); (case kt5 => kit_is); (case z0 => k_is); (case z1 => k_is)
    (case z2 => k_is); (case z3 => k_is); (case z4 => k_is); (case z5 => k_is); (case z6 => k_is); (case z7 => k_is); (case z8 => k_is); (case zsu => k_is); (case z10 => k_is); (case zop => k_is)
    (case zsp => k_is); (case ztk => k_is); (case znm => first | rfl | decide +kernel)
