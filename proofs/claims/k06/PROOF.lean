import PyProof.Rows.All
import Wide.All
import OpenK.AllK
import Wide.FinOn
import PyProof.EqAt
import PyProof.EqKinds
import PyProof.TupleCall
import PyProof.FString
import PyProof.FString4
import KE.KExcSuper
import HandS.ForMost
import HandS.ForExc
import HandS.ExcIs
import KE.KExcIs
import HandS.IsInst
import HandS.ExcCtx
import HandS.HotCalls
import HandS.Evl
import HandS.Wide
import HandS.Defaults
import HandS.Gcd
import HandS.FStr
import HandS.Codes
import HandS.ClsMeth
import HandS.Replace
import HandS.ReplaceLit
import HandS.CallSlots
import HandS.ReplaceList
import HandS.StrMore
import HandS.Text
import HandS.Walk
import HandS.Iter
import HandS.Comp
import PySem.Challenge.RW_renamedhorn_k06_shares_read_back
set_option Elab.async false
set_option linter.all false
set_option maxRecDepth 100000
set_option maxHeartbeats 4000000
/-! Own error classes (over a class over ValueError) whose __init__ hands a text to super().__init__ and keeps one argument, or none. -/
namespace Er
open PySem PySem.W PySem.Calls PyProof.Rows PySem.HandSPX

/-- the text of __init__(self, f): super().__init__(me); self.f = f -/
def args1 (f : Str) (p1 p2 : Pos) : Arguments := { posonlyargs := [], args := [{ arg := "self", annotation := none, pos := p1 }, { arg := f, annotation := none, pos := p2 }], vararg := none, kwonlyargs := [], kw_defaults := [], kwarg := none, defaults := [] }
def args0 (p1 : Pos) : Arguments := { posonlyargs := [], args := [{ arg := "self", annotation := none, pos := p1 }], vararg := none, kwonlyargs := [], kw_defaults := [], kwarg := none, defaults := [] }
def supS (me : Expr) (a b c d e : Pos) : Stmt := .Expr (.Call (.Attribute (.Call (.Name "super" a) [] [] b) "__init__" c) [me] [] d) e
def keepS (f : Str) (a b c d : Pos) : Stmt := .Assign [.Attribute (.Name "self" a) f b] (.Name f c) d
def scope1 (f : Str) : Scope := { kind := .function, names := [(PySem.Str.ofString "self", .local), (f, .local), (PySem.Str.ofString "__class__", .free), (PySem.Str.ofString "super", .globalImplicit)], isGenerator := false, isCoroutine := false, more := [] }
def scope0 : Scope := { kind := .function, names := [(PySem.Str.ofString "self", .local), (PySem.Str.ofString "__class__", .free), (PySem.Str.ofString "super", .globalImplicit)], isGenerator := false, isCoroutine := false, more := [] }

/-- what the written part says of an error class at C with its __init__ at fI, its __class__ cell at cc, its code at cda -/
structure Cls1 (P : Program) (K : Frag) (mg : Str → Option Value) (nm : Str) (C fI : Addr) (pars : Arguments) (body : List Stmt) (sc : Scope) : Prop where
  gC : mg nm = some (.ref C)
  cls : ∃ n q N bs bm sn sub ab col dd k0 k1 k2 k3 k5, K.lookup C = some (excClassObj n q C N bs bm true sn sub ab col dd k0 k1 k2 k3 k5 "ValueError.__new__") ∧ refsVE bm = true
  sa : findIn K (.ref C) "__setattr__" = some (some (.builtin "object.__setattr__"))
  ga : findIn K (.ref C) "__getattribute__" = some (some (.builtin "BaseException.__getattribute__"))
  gg : findIn K (.ref C) "__getattr__" = some none
  iC : findIn K (.ref C) "__init__" = some (some (.ref fI))
  tC : typeIn K (.ref fI) = some (.type "function")
  kC : keepIn K (.ref C) = true
  exC : subIn K (.ref C) (.type "BaseException") = some true
  veC : subIn K (.ref C) (.type "ValueError") = some true
  tyC : typeIn K (.ref C) = some (.type "type")
  hdC : hasDictIn K C = true
  te : exmOne K (.ref C) (.ref C) = some true
  up : ks_superIn K C C "__init__" = some (some (.builtin "ValueError.__init__"))
  self : mroIn K C (.ref C) = some true
  op : nsIn K cStatics "thirdparty.any" = some none
  noS : mg "super" = none
  fn : ∃ (oc : Value) (od : Option Addr) (doc pm : Value) (an : Option Addr) (cda cc : Addr) (ct : Value) (osl : Array (Option Value)) (ccl cl : Value) (cdd cld : Option Addr) (vs : Array Value) (ccs csl : Array (Option Value)) (file : Str) (tf : Tok),
    K.lookup fI = some ⟨oc, od, .func (ksFn "__init__" (nm ++ ".__init__") pars body sc .none .none doc pm an (.ref cda) ct cc), osl⟩ ∧ codeIn K (.ref cda) (nm ++ ".__init__") = true ∧
    K.lookup cda = some ⟨ccl, cdd, .fields vs, ccs⟩ ∧ vs[2]? = some (.str file tf) ∧ ((P.main.file : Str) == file) = true ∧
    K.lookup cc = some ⟨cl, cld, .cell (some (.ref C)), csl⟩
  noM : (P.main.scope.names.lookup ("super" : Str)).isSome = false

/-- an expression that gives a text and makes nothing else, where the name x holds v -/
structure Msg (me : Expr) (x : Str) (v : Value) (sc : Scope) : Prop where
  call : ∀ (env : Env) (a b c d : Pos), (c.endLine == d.line) = true → ∃ pl : Sem Bool, eval (.Call (.Attribute (.Call (.Name "super" a) [] [] b) "__init__" c) [me] [] d) env = (do
      let ov ← attributeBase (.Call (.Name "super" a) [] [] b) "__init__" env (eval (.Call (.Name "super" a) [] [] b) env)
      standAt c.atName
      let (f, first) ← holding [ov] (getMethod ov "__init__" pl)
      callWith d f first (backTo d (starEach [me] env)) [])
  star : ∀ env : Env, starEach [me] env = (false, eval me env) :: starEach [] env
  swap : ∀ (env : Env) (a b c d : Pos) (n : Nat), swapsWith (.Call (.Attribute (.Call (.Name "super" a) [] [] b) "__init__" c) [me] [] d) none n env = pure false
  text : ∀ (prog : Program) (w : World) (A : Around) (E : Value → Shared → Prop) (env : Env) (s : Shared) (m : Str → Option Value) (Q : Value → Shared → Prop),
    env.scope = sc → s.heap.Ns env.locals m → m x = some v → (∀ y tk n, Q (.str y tk) { s with toks := n }) → wpAny (model prog w) A (eval me env) Q E s

theorem size1 (v : Value) : [v].length ≤ sizeLine := by
  rw [sizeLine_eq]
  exact (by decide : 1 ≤ 16777216)
theorem size0 : ([] : List Value).length ≤ sizeLine := Nat.zero_le _
theorem call_eq {o me : Expr} {nm : Str} {c d : Pos} {env : Env} (he : (c.endLine == d.line) = true) (hf : methodCallForm ([me].length + ([] : List Keyword).length) (backTo d (starEach [me] env)) (backToKw d (keywordEach [] env)) = true) :
    eval (.Call (.Attribute o nm c) [me] [] d) env = (do
      let ov ← attributeBase o nm env (eval o env)
      standAt c.atName
      let (f, first) ← holding [ov] (getMethod ov nm (do return (← importBound o env).getD true))
      callWith d f first (backTo d (starEach [me] env)) []) := by
  show (do
    let ov ← attributeBase o nm env (eval o env)
    standAt c.atName
    methodCall o nm c d env ov ([me].length + ([] : List Keyword).length) (backTo d (starEach [me] env)) (backToKw d (keywordEach [] env))) = _
  unfold methodCall
  rw [hf]
  unfold methodCallPos
  simp only [he, Bool.or_true, if_true]
  rfl
/-- an error of the class at S is what «except S» names -/
theorem exm_self {S : Addr} {K : Frag} (h1 : subIn K (.ref S) (.type "BaseException") = some true) (h2 : isClsIn K S = true) (h3 : typeIn K (.ref S) = some (.type "type")) (h4 : subIn K (.ref S) (.ref S) = some true) :
    exmOne K (.ref S) (.ref S) = some true := by
  have e1 : (subIn K (.ref S) (.type "BaseException") == some true) = true := by rw [h1] <;> rfl
  have e2 : ((clsIn K S).isSome && typeIn K (.ref S) == some (.type "type")) = true := by
    have h2' : (clsIn K S).isSome = true := h2
    rw [h2', h3] <;> rfl
  show (if (subIn K (.ref S) (.type "BaseException") == some true) = true then (if ((clsIn K S).isSome && typeIn K (.ref S) == some (.type "type")) = true then subIn K (.ref S) (.ref S) else none) else none) = some true
  rw [if_pos e1, if_pos e2]
  exact h4
structure Made (h h' : Heap) (e C : Addr) (d : Option Addr) (F : Str → Option Value) : Prop where
  keep : ∀ b o, h.get? b = some o → h'.get? b = some o
  new : h.objs.size ≤ e
  obj : ∃ oe vs, h'.get? e = some oe ∧ oe.cls = .ref C ∧ oe.dict = d ∧ oe.data = .fields vs ∧ vs[1]? = some .none
  own : ∀ dx, d = some dx → h.objs.size ≤ dx ∧ dx ≠ e ∧ h'.Ns1 dx F

section
variable {prog : Program} {w : World} {A : Around} {E : Value → Shared → Prop} {R : Result → Shared → Prop} {s : Shared} {K : Frag} {mg mb : Str → Option Value} {C fI : Addr} {nm f : Str}

/-- ValueError.__init__ bound to the exception, called -/
theorem call_mw {h : Heap} {g : Array GenState} {d : Drawn} {t : Nat} {os : OsState} {n q : Str} {N : Addr} {bs bm : List Value} {hdct : Bool} {sn : List Str} {sub : List Value} {ab : Bool} {col : Option Bool} {dd : Option Addr} {k0 k1 k2 k3 k5 : Option Value}
    {u e t0 : Addr} {rest : List Value} {Q : Value → Shared → Prop}
    (hC : h.get? C = some (excClassObj n q C N bs bm hdct sn sub ab col dd k0 k1 k2 k3 k5 "ValueError.__new__")) (he : h.get? e = some (excO C t0)) (hu : h.get? u = some (kxs_mw "ValueError.__init__" e)) (hrest : rest.length ≤ sizeLine)
    (hq : ∀ h' t1, (∀ b o, b ≠ e → h.get? b = some o → h'.get? b = some o) → h'.get? e = some (excO C t1) → Q .none ⟨h', g, d, t, os⟩) :
    wpAny (model prog w) A (call (.ref u) rest) Q E ⟨h, g, d, t, os⟩ := by
  refine wpAny_call
    (codeAny_of_tree ?_)
  show wpAny _ A.in1
    (callAny (.ref u) ⟨rest, []⟩) _ _ _
  simp only
    [callAny]
  refine wpAny_bind
    (wpAny_load hu ?_)
  simp only [kxs_mw, show (Value.type "method-wrapper" == Value.type "method" || Value.type "method-wrapper" == Value.type "builtin_function_or_method" ||
    Value.type "method-wrapper" == Value.type "method-wrapper") = true by decide, if_true]
  refine KFB.if_so (by decide) ?_
  refine wpAny_bind
    (check_bound_init PySem.F.excBase_ValueError.toExcCallFacts hC he rfl ?_)
  refine wpAny_bind (wpAny_pure
    (wpAny_pure ?_))
  refine ⟨plainId_quiet PySem.F.excBase_ValueError.init.plain _, codeAny_builtin PySem.F.excBase_ValueError.initEntry ?_⟩
  exact exc_init_tree (cls := .ref C) (t0 := t0) (dv := none) (c2 := .none) (c3 := .none) (b4 := .bool false) he hrest
    (fun h' k e' _ => hq h' _ k e')

/-- what super().__init__(..) leaves of a fresh exception at x -/
structure Sup (h h' : Heap) (x C : Addr) : Prop where
  keep : ∀ b o, b ≠ x → h.get? b = some o → h'.get? b = some o
  obj : ∃ t1, h'.get? x = some (excO C t1)
theorem sup_body {pars : Arguments} {body0 body : List Stmt} {sc : Scope} {me : Expr} {a b c d e : Pos} {env : Env} {L t0 x : Addr} {m : Str → Option Value} {y : Str} {v : Value} {rest : List Stmt} {Q : Flow → Shared → Prop} {ar : Arg} {h : Heap} {g : Array GenState} {dr : Drawn} {t : Nat} {os : OsState}
    (T : Cls1 prog K mg nm C fI pars body0 sc) (X : K.In h) (hg : h.Ns mainGlobals mg) (hb : h.Ns builtinsNs mb) (hbb : ∀ z : Str, z ≠ "__name__" → mb z = bootBuiltins z)
    (hL : h.Ns L m) (hx : h.get? x = some (excO C t0)) (hself : m "self" = some (.ref x)) (hp : (pars.posonlyargs ++ pars.args).head? = some ar) (hpa : ar.arg = "self") (hM : Msg me y v sc) (hmy : m y = some v)
    (henv : ∃ qual cda cc ccl cl cdd cld vs ccs csl file tf, env = ksEnv qual sc L fI (.ref cda) cc ∧ K.lookup cda = some ⟨ccl, cdd, .fields vs, ccs⟩ ∧ vs[2]? = some (.str file tf) ∧ ((prog.main.file : Str) == file) = true ∧
      K.lookup cc = some ⟨cl, cld, .cell (some (.ref C)), csl⟩)
    (hks : sc.names.lookup ("super" : Str) = some .globalImplicit) (hkc : sc.names.lookup ("__class__" : Str) = some .free) (hka : sc.names.lookup ("self" : Str) = some .local) (hk : sc.kind = .function) (hcd : (c.endLine == d.line) = true)
    (hq : ∀ h' tk, Sup h h' x C → _root_.PySem.wpAt (model prog w) A (.func body env) (execs rest env) Q E ⟨h', g, dr, tk, os⟩) :
    _root_.PySem.wpAt (model prog w) A (.func body env) (execs (supS me a b c d e :: rest) env) Q E ⟨h, g, dr, t, os⟩ := by
  obtain ⟨qual, cda, cc, ccl, cl, cdd, cld, vs, ccs, csl, file, tf, rfl, hcode, hvs, hfile, hcell⟩ := henv
  obtain ⟨oc, od, doc, pm, an, cda', cc', ct, osl, ccl', cl', cdd', cld', vs', ccs', csl', file', tf', hf, _⟩ := T.fn
  obtain ⟨n, q, N, bs, bm, sn, sub, ab, col, dd, k0, k1, k2, k3, k5, hC, hbm⟩ := T.cls
  have hcl : clsIn K C = some { name := n, bases := bs, mro := .ref C :: bm, ns := N, qualname := q, hasDict := true, slotNames := sn, subclasses := sub, abstract := ab, collection := col, hasDel := false } := by unfold clsIn; rw [hC] <;> rfl
  have hup : alongIn K "__init__" (((Value.ref C :: bm).dropWhile (· != .ref C)).drop 1) = some (some (.builtin "ValueError.__init__")) := by
    have z := T.up
    unfold ks_superIn at z
    rw [hcl] at z
    exact z
  obtain ⟨pl, hcall⟩ := hM.call (ksEnv qual sc L fI (.ref cda) cc) a b c d hcd
  refine ks_wpAt_execs_cons (ks_wpAt_Expr_any (ks_wpAt_MethodCall (pl := pl) ?_ hcall) (by show (sc.kind == .module && _) = false; rw [hk]; rfl) (hM.swap _ _ _ _ _ _))
  refine ks_wpAt_super_base (fd := ksFn "__init__" (nm ++ ".__init__") pars body0 sc .none .none doc pm an (.ref cda') ct cc') hks hkc (by decide) rfl (X _ _ hf) rfl hp rfl (X _ _ hcode) rfl hvs hfile T.noM ?_
  refine ks_loadName_global hk hks (loadGlobal_builtin (env := ksEnv qual sc L fI (.ref cda) cc) hg T.noS hb ((hbb _ (by decide)).trans (show bootBuiltins "super" = some (.type "super") by first | rfl | kernel_rfl)) ⟨rfl, ?_⟩)
  refine wpAny_loadName_free hk hkc (c := cc) (v := .ref C) rfl ⟨_, X _ _ hcell, rfl⟩ ?_
  rw [hpa]
  refine wpAny_loadName_local hk hka hL hself ?_
  refine ks_wpAny_isType_cls (X _ _ hC) rfl ⟨rfl, ?_⟩
  have I : InstAt h x (excO C t0) C none := ⟨hx, rfl, rfl, trivial⟩
  refine ks_wpAny_call_super (X _ _ hC) rfl hx rfl (fun c z => by cases z) (looks_mroIn X T.self) (fun h2 hso kk => ?_)
  have X2 : K.In h2 := X.keeps kk
  have hx2 := kk _ _ hx
  have I2 : InstAt h2 x (excO C t0) C none := ⟨hx2, rfl, rfl, trivial⟩
  refine kxs_getMethod kxs_ValueError hso (looks_opaque X2 T.op) (l₀ := .ref C :: bm) (fun A Q E s k q => wpAny_bind ((looks_clsIn X2 hcl) A _ E s k (wpAny_pure q))) rfl X2 hup (I2.type.andThen (looks_subIn X2 T.veC)) (ks_ne X2 I2 hcl) (by decide) ?_
  have kk3 : ∀ b o, h2.get? b = some o → (h2.push (kxs_mw "ValueError.__init__" x)).get? b = some o := fun b o z => Heap.get?_push_of_some _ z
  have hu : (h2.push (kxs_mw "ValueError.__init__" x)).get? h2.objs.size = some (kxs_mw "ValueError.__init__" x) := Heap.get?_push_at rfl rfl
  have hLx : L ≠ x := fun z => by
    obtain ⟨oL, es, ep, hoL, hdL, _⟩ := hL
    rw [z, hx] at hoL
    have z2 := Option.some.inj hoL
    subst z2
    cases hdL
  have he1 := hM.star (ksEnv qual sc L fI (.ref cda) cc)
  refine kxs_callWith (i := "ValueError.__init__") (x := x) (by rw [he1]; rfl) ?_
  rw [he1]
  refine evalArgs_plain ?_
  refine spliced_cons ?_
  refine hM.text _ _ _ _ _ _ m _ rfl (hL.keeps fun b o z => kk3 b o (kk b o z)) hmy (fun y' tk' n' => ?_)
  refine spliced_nil ?_
  refine ⟨hu, ?_⟩
  refine call_mw (X2.keeps kk3 _ _ hC) (kk3 _ _ hx2) hu (size1 _) (fun h' t1 k' e' => ?_)
  exact hq h' _ ⟨fun b o nb z => k' b o nb (kk3 b o (kk b o z)), t1, e'⟩
theorem ldL {env : Env} {m : Str → Option Value} {x : Str} {pos : Pos} {v : Value} {Q : Value → Shared → Prop} (hn : s.heap.Ns env.locals m) (hv : m x = some v) (hk : env.scope.kind = .function) (hl : env.kindOf x = some .local) (hd : (x == ("__debug__" : Str)) = false) (h : Q v s) :
    wpAny (model prog w) A (eval (.Name x pos) env) Q E s := wpAny_Name (wpAny_loadName_local hk hl hn hv h) hd


/-- how a field's name stands in such a text -/
structure Fld (f : Str) : Prop where
  bind : ∀ (q : Str) (p1 p2 : Pos) (body : List Stmt) (dV kV doc pm : Value) (an : Option Addr) (cd ct : Value) (cc : Addr) (x v : Value), bindArgs (ksFn "__init__" q (args1 f p1 p2) body (scope1 f) .none .none doc pm an cd ct cc) ⟨[x, v], []⟩ = pure [(("self" : Str), x), (f, v)]
  ne : (f == ("self" : Str)) = false
  dbg : (f == ("__debug__" : Str)) = false
  kf : (scope1 f).names.lookup f = some .local
  ks : (scope1 f).names.lookup ("super" : Str) = some .globalImplicit
  kc : (scope1 f).names.lookup ("__class__" : Str) = some .free
  cell : ∀ x ∈ (scope1 f).names, x.2 ≠ .cell

/-- what __init__ leaves of a fresh exception at x: a dict at dx that holds the field -/
structure End1 (h h' : Heap) (x C dx : Addr) (f : Str) (v : Value) : Prop where
  keep : ∀ b o, b ≠ x → h.get? b = some o → h'.get? b = some o
  obj : ∃ t1, h'.get? x = some { cls := .ref C, dict := some dx, data := .fields #[.ref t1, .none, .none, .none, .bool false, .none] }
  big : h.objs.size ≤ dx
  ne : dx ≠ x
  ns : h'.Ns1 dx (fun y => if y = f then some v else none)
/-- the __init__ of one argument -/
theorem init1 {f : Str} {p1 p2 a b c d e a' b' c' d' : Pos} {me : Expr} {x t0 : Addr} {v : Value}
    (T : Cls1 prog K mg nm C fI (args1 f p1 p2) [supS me a b c d e, keepS f a' b' c' d'] (scope1 f)) (X : K.In s.heap) (hg : s.heap.Ns mainGlobals mg) (hb : s.heap.Ns builtinsNs mb) (hbb : ∀ z : Str, z ≠ "__name__" → mb z = bootBuiltins z)
    (hlim : s.heap.NoLimit) (hx : s.heap.get? x = some (excO C t0)) (hnx : K.lookup x = none) (hroom : A.depth < recursionLimit) (hM : Msg me f v (scope1 f)) (hcdp : (c.endLine == d.line) = true) (hF : Fld f) (noN : findIn K (.ref C) f = some none)
    (hq : ∀ h' tk dx, End1 s.heap h' x C dx f v → R (.ok (.ret .none)) { s with heap := h', toks := tk }) :
    codeAny (model prog w) A (.call (.ref fI) ⟨[.ref x, v], []⟩) R s := by
  obtain ⟨oc, od, doc, pm, an, cda, cc, ct, osl, ccl, cl, cdd, cld, vs, ccs, csl, file, tf, hf, hcd, hcode, hvs, hfile, hcell⟩ := T.fn
  obtain ⟨n, q, N, bs, bm, sn, sub, ab, col, dd, k0, k1, k2, k3, k5, hC, hbm⟩ := T.cls
  have hcl : clsIn K C = some { name := n, bases := bs, mro := .ref C :: bm, ns := N, qualname := q, hasDict := true, slotNames := sn, subclasses := sub, abstract := ab, collection := col, hasDel := false } := by unfold clsIn; rw [hC] <;> rfl
  have l1 : (scope1 f).names.lookup ("self" : Str) = some .local := rfl
  have fs : ¬ f = ("self" : Str) := by simpa using hF.ne
  refine ks_codeAny_call_defAt (fd := ksFn "__init__" (nm ++ ".__init__") (args1 f p1 p2) [supS me a b c d e, keepS f a' b' c' d'] (scope1 f) .none .none doc pm an (.ref cda) ct cc) (body := [supS me a b c d e, keepS f a' b' c' d'])
    (binds := [(("self" : Str), Value.ref x), (f, v)]) hroom (X _ _ hf) rfl hlim (codeRec_of X hcd) rfl (BindsTo.of_eq (hF.bind _ _ _ _ .none .none _ _ _ _ _ _ _ _)) hF.cell (fun y hy => ?_) (fun h₁ hns kk => ?_)
  · rcases List.mem_cons.mp hy with e | hy
    · rw [e]
      exact l1
    · rw [List.mem_singleton.mp hy]
      exact hF.kf
  · obtain ⟨hp, g, dr, tk, os⟩ := s
    have X1 : K.In h₁ := X.keeps kk
    have ms : (fun y : Str => ([(("self" : Str), Value.ref x), (f, v)]).reverse.lookup y) ("self" : Str) = some (.ref x) := by
      show List.lookup ("self" : Str) [(f, v), (("self" : Str), Value.ref x)] = some (.ref x)
      have z : (("self" : Str) == f) = false := by
        rw [beq_eq_false_iff_ne]
        exact fun z => fs z.symm
      rw [List.lookup_cons, z]
      simp [List.lookup]
    have mf : (fun y : Str => ([(("self" : Str), Value.ref x), (f, v)]).reverse.lookup y) f = some v := by
      show List.lookup f [(f, v), (("self" : Str), Value.ref x)] = some v
      simp [List.lookup]
    have hL : hp.objs.size ≠ x := Nat.ne_of_gt (Heap.lt_size hx)
    refine sup_body (mb := mb) T X1 (hg.keeps kk) (hb.keeps kk) hbb hns (kk _ _ hx) ms rfl rfl hM mf ⟨_, cda, cc, ccl, cl, cdd, cld, vs, ccs, csl, file, tf, rfl, hcode, hvs, hfile, hcell⟩ hF.ks hF.kc l1 rfl hcdp (fun h2 tk2 S => ?_)
    obtain ⟨t1, hx2⟩ := S.obj
    have hns2 : h2.Ns hp.objs.size _ := hns.at fun o z => S.keep _ _ hL z
    have X2 : K.In h2 := fun b o z => S.keep b o (fun y => by
      rw [y, hnx] at z
      cases z) (X1 b o z)
    refine ks_wpAt_execs_cons (wpAt_of_wpAny ?_)
    refine plainObj_wpAny_Assign_Attribute ?_
    refine ldL (v := v) hns2 mf rfl hF.kf hF.dbg (ldL (v := .ref x) hns2 ms rfl l1 (by decide) ?_)
    refine set_plain X2 (ox := excO C t1) (od := none) ⟨hx2, rfl, rfl, trivial⟩ T.sa ?_
    refine exc_osa X2 hx2 hcl (show refsVE (.ref C :: bm) = true from hbm) rfl noN (fun h3 tk3 dx k3 dn dne hx3 hn3 => ?_)
    refine wpAt_of_wpAny (wpAny_execs_nil (hq h3 tk3 dx ⟨fun b o nb z => k3 b o nb (S.keep b o nb (kk b o z)), ⟨t1, hx3⟩, ?_, dne, hn3⟩))
    obtain ⟨oL, _, _, hoL, _⟩ := hns2
    exact Nat.le_trans (Nat.le_of_lt (Heap.lt_size hoL)) dn
theorem cell0 : ∀ y ∈ scope0.names, y.2 ≠ .cell := by decide
/-- the __init__ without argument -/
theorem init0 {p1 a b c d e : Pos} {me : Expr} {x t0 : Addr} (T : Cls1 prog K mg nm C fI (args0 p1) [supS me a b c d e] scope0) (X : K.In s.heap) (hg : s.heap.Ns mainGlobals mg) (hb : s.heap.Ns builtinsNs mb) (hbb : ∀ z : Str, z ≠ "__name__" → mb z = bootBuiltins z)
    (hlim : s.heap.NoLimit) (hx : s.heap.get? x = some (excO C t0)) (hnx : K.lookup x = none) (hroom : A.depth < recursionLimit) (hM : Msg me "self" (.ref x) scope0) (hcdp : (c.endLine == d.line) = true)
    (hq : ∀ h' tk, Sup s.heap h' x C → R (.ok (.ret .none)) { s with heap := h', toks := tk }) :
    codeAny (model prog w) A (.call (.ref fI) ⟨[.ref x], []⟩) R s := by
  obtain ⟨oc, od, doc, pm, an, cda, cc, ct, osl, ccl, cl, cdd, cld, vs, ccs, csl, file, tf, hf, hcd, hcode, hvs, hfile, hcell⟩ := T.fn
  refine ks_codeAny_call_defAt (fd := ksFn "__init__" (nm ++ ".__init__") (args0 p1) [supS me a b c d e] scope0 .none .none doc pm an (.ref cda) ct cc) (body := [supS me a b c d e])
    (binds := [(("self" : Str), Value.ref x)]) hroom (X _ _ hf) rfl hlim (codeRec_of X hcd) rfl (BindsTo.of_eq rfl) (by intro y hy; exact cell0 y hy) (fun y hy => ?_) (fun h₁ hns kk => ?_)
  · rw [List.mem_singleton.mp hy]
    rfl
  · obtain ⟨hp, g, dr, tk, os⟩ := s
    have X1 : K.In h₁ := X.keeps kk
    refine sup_body (mb := mb) T X1 (hg.keeps kk) (hb.keeps kk) hbb hns (kk _ _ hx) rfl rfl rfl hM rfl ⟨_, cda, cc, ccl, cl, cdd, cld, vs, ccs, csl, file, tf, rfl, hcode, hvs, hfile, hcell⟩ rfl rfl rfl rfl hcdp (fun h2 tk2 S => ?_)
    exact wpAt_of_wpAny (wpAny_execs_nil (hq h2 tk2 ⟨fun b o nb z => S.keep b o nb (kk b o z), S.obj⟩))

/-- a made error of one argument -/
structure Own1 (h h' : Heap) (e C d : Addr) (f : Str) (v : Value) : Prop where
  keep : ∀ b o, h.get? b = some o → h'.get? b = some o
  new : h.objs.size ≤ e
  obj : ∃ oe vs, h'.get? e = some oe ∧ oe.cls = .ref C ∧ oe.dict = some d ∧ oe.data = .fields vs ∧ vs[1]? = some .none ∧ vs[2]? = some .none
  big : h.objs.size ≤ d
  ne : d ≠ e
  ns : h'.Ns1 d (fun y => if y = f then some v else none)
structure Own0 (h h' : Heap) (e C : Addr) : Prop where
  keep : ∀ b o, h.get? b = some o → h'.get? b = some o
  new : h.objs.size ≤ e
  obj : ∃ oe vs, h'.get? e = some oe ∧ oe.cls = .ref C ∧ oe.dict = none ∧ oe.data = .fields vs ∧ vs[1]? = some .none ∧ vs[2]? = some .none
theorem fresh_of {hp : Heap} (X : K.In hp) {n : Nat} (h : hp.objs.size ≤ n) : K.lookup n = none := by
  cases e : K.lookup n with
  | none => rfl
  | some o => exact absurd (Nat.lt_of_lt_of_le (Heap.lt_size (X _ _ e)) h) (Nat.lt_irrefl _)
theorem made1 {f : Str} {p1 p2 a b c d e a' b' c' d' : Pos} {me : Expr} {v : Value}
    (T : Cls1 prog K mg nm C fI (args1 f p1 p2) [supS me a b c d e, keepS f a' b' c' d'] (scope1 f)) (X : K.In s.heap) (hg : s.heap.Ns mainGlobals mg) (hb : s.heap.Ns builtinsNs mb) (hbb : ∀ z : Str, z ≠ "__name__" → mb z = bootBuiltins z)
    (hlim : s.heap.NoLimit) (hroom : A.depth + 1 < recursionLimit) (hM : Msg me f v (scope1 f)) (hcdp : (c.endLine == d.line) = true) (hF : Fld f) (noN : findIn K (.ref C) f = some none)
    (hq : ∀ h' tk x dx, Own1 s.heap h' x C dx f v → R (.ok (.ret (.ref x))) { s with heap := h', toks := tk }) : codeAny (model prog w) A (.call (.ref C) ⟨[v], []⟩) R s := by
  obtain ⟨n, q, N, bs, bm, sn, sub, ab, col, dd, k0, k1, k2, k3, k5, hC, hbm⟩ := T.cls
  obtain ⟨hp, g, dr, tk, os⟩ := s
  have k : ∀ b o, hp.get? b = some o → ((hp.push (kdv_tup [v])).push (excO C hp.objs.size)).get? b = some o := fun b o z => Heap.get?_push_of_some _ (Heap.get?_push_of_some _ z)
  have hget : ((hp.push (kdv_tup [v])).push (excO C hp.objs.size)).get? (hp.objs.size + 1) = some (excO C hp.objs.size) := by heap_get
  refine call_own PySem.F.excBase_ValueError (fun Y => refsVE_contains Y bm hbm) (X _ _ hC) (looks_findIn X T.iC) (fun self => bind_fn X self T.tC) (size1 v) ?_
  refine init1 (mb := mb) (s := ⟨(hp.push (kdv_tup [v])).push (excO C hp.objs.size), g, dr, tk, os⟩) T (X.keeps k) (hg.keeps k) (hb.keeps k) hbb (hlim.keeps k) hget (fresh_of X (Nat.le_succ _)) hroom hM hcdp hF noN fun h' tk' dx Z => ?_
  have old : ∀ b o, hp.get? b = some o → h'.get? b = some o := fun b o z => Z.keep b o (Nat.ne_of_lt (Nat.lt_succ_of_lt (Heap.lt_size z))) (k b o z)
  have z : hp.objs.size + 1 + 1 ≤ dx := by
    have q := Z.big
    rw [Heap.size_push, Heap.size_push] at q
    exact q
  obtain ⟨t1, ho⟩ := Z.obj
  exact ⟨rfl, hq h' tk' (hp.objs.size + 1) dx ⟨old, Nat.le_succ _, ⟨_, _, ho, rfl, rfl, rfl, rfl, rfl⟩, Nat.le_trans (Nat.le_trans (Nat.le_succ _) (Nat.le_succ _)) z, Z.ne, Z.ns⟩⟩
theorem made0 {p1 a b c d e : Pos} {me : Expr}
    (T : Cls1 prog K mg nm C fI (args0 p1) [supS me a b c d e] scope0) (X : K.In s.heap) (hg : s.heap.Ns mainGlobals mg) (hb : s.heap.Ns builtinsNs mb) (hbb : ∀ z : Str, z ≠ "__name__" → mb z = bootBuiltins z)
    (hlim : s.heap.NoLimit) (hroom : A.depth + 1 < recursionLimit) (hM : ∀ x : Addr, Msg me "self" (.ref x) scope0) (hcdp : (c.endLine == d.line) = true)
    (hq : ∀ h' tk x, Own0 s.heap h' x C → R (.ok (.ret (.ref x))) { s with heap := h', toks := tk }) : codeAny (model prog w) A (.call (.ref C) ⟨[], []⟩) R s := by
  obtain ⟨n, q, N, bs, bm, sn, sub, ab, col, dd, k0, k1, k2, k3, k5, hC, hbm⟩ := T.cls
  obtain ⟨hp, g, dr, tk, os⟩ := s
  have k : ∀ b o, hp.get? b = some o → ((hp.push (kdv_tup [])).push (excO C hp.objs.size)).get? b = some o := fun b o z => Heap.get?_push_of_some _ (Heap.get?_push_of_some _ z)
  have hget : ((hp.push (kdv_tup [])).push (excO C hp.objs.size)).get? (hp.objs.size + 1) = some (excO C hp.objs.size) := by heap_get
  refine call_own PySem.F.excBase_ValueError (fun Y => refsVE_contains Y bm hbm) (X _ _ hC) (looks_findIn X T.iC) (fun self => bind_fn X self T.tC) size0 ?_
  refine init0 (mb := mb) (s := ⟨(hp.push (kdv_tup [])).push (excO C hp.objs.size), g, dr, tk, os⟩) T (X.keeps k) (hg.keeps k) (hb.keeps k) hbb (hlim.keeps k) hget (fresh_of X (Nat.le_succ _)) hroom (hM _) hcdp fun h' tk' Z => ?_
  have old : ∀ b o, hp.get? b = some o → h'.get? b = some o := fun b o z => Z.keep b o (Nat.ne_of_lt (Nat.lt_succ_of_lt (Heap.lt_size z))) (k b o z)
  obtain ⟨t1, ho⟩ := Z.obj
  exact ⟨rfl, hq h' tk' (hp.objs.size + 1) ⟨old, Nat.le_succ _, ⟨_, _, ho, rfl, rfl, rfl, rfl, rfl⟩⟩⟩
end

/-! ### the texts of the messages -/
section
variable {f : Str} {sc : Scope}
theorem text_const {prog : Program} {w : World} {A : Around} {E : Value → Shared → Prop} {env : Env} {s : Shared} {Q : Value → Shared → Prop} {c : Str} {k : Nat} {p : Pos} (h : Q (.str c s.toks) { s with toks := s.toks + 1 }) : wpAny (model prog w) A (eval (.Constant (.str c) k p) env) Q E s := wpAny_Constant_str h
theorem msg_c {x : Str} {v : Value} {c : Str} {k : Nat} {p : Pos} : Msg (.Constant (.str c) k p) x v sc where
  call := fun env a b c' d e => ⟨_, call_eq e rfl⟩
  star := fun env => rfl
  swap := fun _ _ _ _ _ _ => rfl
  text := fun prog w A E env s m Q he hn hv h => wpAny_Constant_str (h c s.toks _)
/-- one part behind another, the field in {..!r} or {..}: a text | an int -/
theorem part_s {prog : Program} {w : World} {A : Around} {E : Value → Shared → Prop} {env : Env} {s : Shared} {m : Str → Option Value} {y : Str} {t : Tok} {p q : Pos} {Q : Value → Shared → Prop} (hF : sc.names.lookup f = some .local) (hk : sc.kind = .function) (hd : (f == ("__debug__" : Str)) = false) (he : env.scope = sc)
    (hn : s.heap.Ns env.locals m) (hv : m f = some (.str y t)) (hz : y.length ≤ sizeLine) (h : ∀ tk n, Q (.str y tk) { s with toks := n }) : wpAny (model prog w) A (eval (.FormattedValue (.Name f p) (-1) none q) env) Q E s := by
  refine wpAny_FormattedValue_plain (ldL hn hv (by rw [he]; exact hk) (by show env.scope.names.lookup f = _; rw [he]; exact hF) hd ?_)
  exact wpAny_formatField_str (h _ s.toks) (h _ _) hz
theorem part_r {prog : Program} {w : World} {A : Around} {E : Value → Shared → Prop} {env : Env} {s : Shared} {m : Str → Option Value} {y : Str} {t : Tok} {p q : Pos} {Q : Value → Shared → Prop} (hF : sc.names.lookup f = some .local) (hk : sc.kind = .function) (hd : (f == ("__debug__" : Str)) = false) (he : env.scope = sc)
    (hn : s.heap.Ns env.locals m) (hv : m f = some (.str y t)) (hz : (reprText y).length ≤ sizeLine) (h : ∀ tk n, Q (.str (reprText y) tk) { s with toks := n }) : wpAny (model prog w) A (eval (.FormattedValue (.Name f p) 114 none q) env) Q E s := by
  refine wpAny_FormattedValue_repr (ldL hn hv (by rw [he]; exact hk) (by show env.scope.names.lookup f = _; rw [he]; exact hF) hd ?_)
  exact pyReprObj_str (wpAny_formatField_str (h _ _) (h _ _) hz) hz
theorem part_i {prog : Program} {w : World} {A : Around} {E : Value → Shared → Prop} {env : Env} {s : Shared} {m : Str → Option Value} {i : Int} {t : Tok} {p q : Pos} {Q : Value → Shared → Prop} (hF : sc.names.lookup f = some .local) (hk : sc.kind = .function) (hd : (f == ("__debug__" : Str)) = false) (he : env.scope = sc)
    (hn : s.heap.Ns env.locals m) (hv : m f = some (.int i t)) (hz : i.natAbs.log2 < 1920) (h : ∀ tk n, Q (.str (toString i) tk) { s with toks := n }) : wpAny (model prog w) A (eval (.FormattedValue (.Name f p) (-1) none q) env) Q E s := by
  refine wpAny_FormattedValue_plain (ldL hn hv (by rw [he]; exact hk) (by show env.scope.names.lookup f = _; rw [he]; exact hF) hd ?_)
  exact wpAny_formatField_int hz (h _ _)
theorem app_le {a b : Str} {n m : Nat} (h1 : a.length ≤ n) (h2 : b.length ≤ m) : (a ++ b).length ≤ n + m := by
  have e : (a ++ b).length = a.length + b.length := Array.size_append ..
  omega
/-- f'c{f!r}' of a text -/
theorem msg_cr {y : Str} {t : Tok} {c : Str} {p q p1 p2 : Pos} {k : Nat} (hF : Fld f) (hc : c.length ≤ 1000) (hz : (reprText y).length ≤ 1000) : Msg (.JoinedStr [.Constant (.str c) k p1, .FormattedValue (.Name f p) 114 none q] p2) f (.str y t) (scope1 f) where
  call := fun env a b c' d e => ⟨_, call_eq e rfl⟩
  star := fun env => rfl
  swap := fun _ _ _ _ _ _ => rfl
  text := fun prog w A E env s m Q he hn hv h => by
    have z0 : (Str.empty ++ c).length ≤ 0 + 1000 := app_le (Nat.le_refl _) hc
    have z1 : (Str.empty ++ c ++ reprText y).length ≤ 0 + 1000 + 1000 := app_le z0 hz
    have b0 : (2000 : Nat) ≤ sizeLine := by rw [sizeLine_eq]; decide
    refine wpAny_JoinedStr ?_
    refine wpAny_Constant_str ⟨c, _, rfl, Nat.le_trans z0 (Nat.le_trans (by decide) b0), ?_⟩
    refine part_r (sc := scope1 f) hF.kf rfl hF.dbg he (s := { s with toks := s.toks + 1 }) hn hv (Nat.le_trans hz (Nat.le_trans (by decide) b0)) fun tk n => ⟨_, _, rfl, Nat.le_trans z1 b0, ?_⟩
    exact ⟨Nat.le_trans z1 b0, h _ _ _⟩
/-- f'c{f}' of an int -/
theorem msg_ci {i : Int} {t : Tok} {c : Str} {p q p1 p2 : Pos} {k : Nat} (hF : Fld f) (hc : c.length ≤ 1000) (hz : i.natAbs.log2 < 1920) (hs : (toString i : Str).length ≤ 1000) : Msg (.JoinedStr [.Constant (.str c) k p1, .FormattedValue (.Name f p) (-1) none q] p2) f (.int i t) (scope1 f) where
  call := fun env a b c' d e => ⟨_, call_eq e rfl⟩
  star := fun env => rfl
  swap := fun _ _ _ _ _ _ => rfl
  text := fun prog w A E env s m Q he hn hv h => by
    have z0 : (Str.empty ++ c).length ≤ 0 + 1000 := app_le (Nat.le_refl _) hc
    have z1 : (Str.empty ++ c ++ (toString i : Str)).length ≤ 0 + 1000 + 1000 := app_le z0 hs
    have b0 : (2000 : Nat) ≤ sizeLine := by rw [sizeLine_eq]; decide
    refine wpAny_JoinedStr ?_
    refine wpAny_Constant_str ⟨c, _, rfl, Nat.le_trans z0 (Nat.le_trans (by decide) b0), ?_⟩
    refine part_i (sc := scope1 f) hF.kf rfl hF.dbg he (s := { s with toks := s.toks + 1 }) hn hv hz fun tk n => ⟨_, _, rfl, Nat.le_trans z1 b0, ?_⟩
    exact ⟨Nat.le_trans z1 b0, h _ _ _⟩
/-- f'{f}c' of a text -/
theorem msg_sc {y : Str} {t : Tok} {c : Str} {p q p1 p2 : Pos} {k : Nat} (hF : Fld f) (hc : c.length ≤ 1000) (hz : y.length ≤ 1000) : Msg (.JoinedStr [.FormattedValue (.Name f p) (-1) none q, .Constant (.str c) k p1] p2) f (.str y t) (scope1 f) where
  call := fun env a b c' d e => ⟨_, call_eq e rfl⟩
  star := fun env => rfl
  swap := fun _ _ _ _ _ _ => rfl
  text := fun prog w A E env s m Q he hn hv h => by
    have z0 : (Str.empty ++ y).length ≤ 0 + 1000 := app_le (Nat.le_refl _) hz
    have z1 : (Str.empty ++ y ++ c).length ≤ 0 + 1000 + 1000 := app_le z0 hc
    have b0 : (2000 : Nat) ≤ sizeLine := by rw [sizeLine_eq]; decide
    refine wpAny_JoinedStr ?_
    refine part_s (sc := scope1 f) hF.kf rfl hF.dbg he hn hv (Nat.le_trans hz (Nat.le_trans (by decide) b0)) fun tk n => ⟨_, _, rfl, Nat.le_trans z0 (Nat.le_trans (by decide) b0), ?_⟩
    refine wpAny_Constant_str ⟨c, _, rfl, Nat.le_trans z1 b0, ?_⟩
    exact ⟨Nat.le_trans z1 b0, h _ _ _⟩
end
end Er

namespace L2
open PySem PySem.Spec PyProof.Rows Er
/-- isinstance(e, c), e the error that the suite holds, with a dict of its own -/
def rIsF (K : PySem.W.Frag) (D a : Addr) (cls : Value) (dd : Option Addr) : List V → Hp → VK → Prop := fun xs H Q => cls = .ref D ∧ ∃ (c : V) (cv : Value) (b : Bool), xs = [.ref a, c] ∧ (∀ u, RelV c u → u = cv) ∧ (∀ dx, dd = some dx → ∃ fs, H dx = some (.xd fs)) ∧ PySem.W.kitOne K (.ref D) cv = some b ∧ Q (.bl b) H
theorem call_isF {X : Cx} {a D : Addr} {cls : Value} {dd : Option Addr} {oe : Obj} {pn : List (Addr × Obj)} (C : ExcC X.K D) (hz : Zc cls dd oe) (hf : ∃ vs, oe.data = .fields vs) : CallR (X.suite a ((a, oe) :: pn)) (.builtin "isinstance") (rIsF X.K D a cls dd) := by
  intro pins s σ H xs us Q I r h
  obtain ⟨ecls, c, cv, b, rfl, hcv, hdd, e, q⟩ := h
  subst ecls
  cases r with
  | cons rx rr =>
    cases rr with
    | cons rt rr =>
      cases rr
      cases rx
      have ec := hcv _ rt
      subst ec
      obtain ⟨hget, _⟩ := I.pin (a, oe) (List.mem_append.mpr (.inl List.mem_cons_self))
      obtain ⟨vs, hv⟩ := hf
      have hcl : (PySem.W.clsIn X.K D).isSome = true := by
        obtain ⟨cd, hc, _⟩ := PySem.W.any_some C.hd
        rw [hc]
        rfl
      have J : ∃ od, PySem.W.InstAt s.heap a oe D od := by
        obtain ⟨oc, od, oda, osl⟩ := oe
        obtain ⟨h1, h2⟩ := hz
        dsimp only at h1 h2 hv
        subst h1 h2 hv
        cases od with
        | none => exact ⟨none, hget, rfl, rfl, trivial⟩
        | some dx =>
          obtain ⟨fs, hx⟩ := hdd dx rfl
          have ok : ObjOk X.prog X.w H s.heap dx (.xd fs) := I.hok dx _ hx
          obtain ⟨mA, hns, hr⟩ := ok
          obtain ⟨od, ho, hl⟩ := lookIn_ns hns
          exact ⟨some od, hget, rfl, rfl, ho⟩
      obtain ⟨od, J⟩ := J
      exact PySem.W.kia_one (PySem.W.kitx_exc hcl C.hg C.hk C.hs C.ha C.hn C.ht C.hm) I.kIn J e (fun z => nomatch z) fun tk => ⟨.bl b, H, I.kept (t' := tk) fun _ _ z => z, rfl, q⟩
theorem relO_f1 {v : V} {v' : Value} (r : RelV v v') (f g : Str) : RelO (List.lookup g [(f, v)]) (if g = f then some v' else none) := by
  by_cases hw : g = f
  · rw [if_pos hw, hw]
    have q : List.lookup f [(f, v)] = some v := by simp [List.lookup]
    rw [q]
    exact r
  · rw [if_neg hw]
    have qw : (g == f) = false := by simpa using hw
    have q2 : List.lookup g [(f, v)] = none := by simp [List.lookup, qw]
    rw [q2]
    trivial
section
variable {X : Cx} {C fI : Addr} {nm f : Str} {me : Expr} {p1 p2 a b c d e a' b' c' d' : Pos}
def tMk1 (C : Addr) (f : Str) (me : Expr) (ta : TA) : St → Hp → XK → Prop := fun σ H Q => ta σ H fun vs H1 => ∃ v, vs = [v] ∧ (∀ u, RelV v u → Msg me f u (scope1 f)) ∧ ∀ d, H1 d = none → Q (.ref C) (some d) (upd H1 d (.xd [(f, v)]))
theorem pmk1 {x : Expr} {ta : TA} {p pos : Pos} {k : Nat} (T : Cls1 X.prog X.K X.mg nm C fI (args1 f p1 p2) [supS me a b c d e, keepS f a' b' c' d'] (scope1 f)) (hcdp : (c.endLine == d.line) = true) (hF : Fld f) (noN : PySem.W.findIn X.K (.ref C) f = some none) (hr : Room k X.A) (ha : PA X [x] ta) (hg : Gl X nm) (hdb : (nm == ("__debug__" : Str)) = false)
    (he : starEach (x :: []) X.env = (false, eval x X.env) :: starEach [] X.env := by rfl) (hpl : (backTo pos (starEach [] X.env)).any (·.1) = false := by rfl) :
    L2N.PMk X (.Call (.Name nm p) [x] [] pos) (tMk1 C f me ta) := by
  intro pins s σ H Q I h
  refine wpAny_Call_Name_kw (ld_glob I hg T.gC ?_ hdb)
  refine PySem.W.callWith_K (h₀ := X.base) I.ok.mod.kin T.kC (thn (ha.run pos pins s σ H _ I h) fun us s1 hh => ?_) he hpl
  obtain ⟨vs, H1, I1, r1, v, ev, hM, q1⟩ := hh
  subst ev
  refine ⟨I1.kIn, ?_⟩
  cases r1 with
  | cons rv rn =>
    rename_i v' us'
    cases rn
    show wpAny _ _ (call (.ref C) [v']) _ _ _
    have hlim := I1.nolimit
    obtain ⟨mb, hb1, hb2⟩ := I1.mod.blt
    have hgl := I1.mod.glob.keeps I1.bk
    have hbl := hb1.keeps I1.bk
    obtain ⟨hp, g, dr, tk, os⟩ := s1
    refine wpAny_call (made1 (mb := mb) T I1.kIn hgl hbl hb2 hlim (by have := hr.dp; omega) (hM v' rv) hcdp hF noN fun h' tk' e d M => ?_)
    show L2N.MkP X pins σ Q (.ref e) ⟨h', g, dr, tk', os⟩
    obtain ⟨oe, fv, hoe, hc, hd, hdat, h1, h2⟩ := M.obj
    have hz : L2N.Zn (.ref C) _ oe := ⟨hc, hd, fun vs' e' => by
      rw [hdat] at e'
      cases e'
      exact h2⟩
    have hns := M.ns
    obtain ⟨G', g1, g2⟩ := restrict h' fun b => decide (b ≠ e)
    have gk : ∀ b, b ≠ e → G'.get? b = h'.get? b := fun b hb => g1 b (decide_eq_true hb)
    have ge : G'.get? e = none := g2 e (by simp)
    have old : ∀ b o, hp.get? b = some o → G'.get? b = some o := fun b o q => (gk b (Nat.ne_of_lt (Nat.lt_of_lt_of_le (Heap.lt_size q) M.new))).trans (M.keep b o q)
    have ob : ObjOk X.prog X.w (upd H1 d (.xd [(f, v)])) G' d (.xd [(f, v)]) :=
      ⟨_, hns.at (fun o q => (gk d M.ne).trans q), fun g => relO_f1 rv f g⟩
    have J : Inv X pins σ (upd H1 d (.xd [(f, v)])) ⟨G', g, dr, tk', os⟩ := I1.laid (t' := tk') old M.big ob
    refine ⟨e, oe, fv, ⟨G', g, dr, tk', os⟩, _, .ref C, some d, rfl, J, fun b o q => ?_, ge, hoe, hz, hdat, h1, ?_, rfl, I1.bare, raises_own T.exC T.tyC, q1 d (I1.hok.fresh M.big)⟩
    · by_cases hb : b = e
      · have q' : G'.get? b = some o := q
        rw [hb, ge] at q'
        cases q'
      · exact (gk b hb).symm.trans q
    · rw [upd_ne (Ne.symm M.ne)]
      exact I1.hok.fresh M.new
def tMk0 (C : Addr) : St → Hp → XK → Prop := fun σ H Q => Q (.ref C) none H
theorem pmk0 {p pos : Pos} {k : Nat} (T : Cls1 X.prog X.K X.mg nm C fI (args0 p1) [supS me a b c d e] scope0) (hM : ∀ x : Addr, Msg me "self" (.ref x) scope0) (hcdp : (c.endLine == d.line) = true) (hr : Room k X.A) (hg : Gl X nm) (hdb : (nm == ("__debug__" : Str)) = false) :
    L2N.PMk X (.Call (.Name nm p) [] [] pos) (tMk0 C) := by
  intro pins s σ H Q I h
  refine wpAny_Call_Name_kw (ld_glob I hg T.gC ?_ hdb)
  refine PySem.W.callWith_K0 I.kIn T.kC ?_
  show wpAny _ _ (call (.ref C) []) _ _ _
  have hlim := I.nolimit
  obtain ⟨mb, hb1, hb2⟩ := I.mod.blt
  have hgl := I.mod.glob.keeps I.bk
  have hbl := hb1.keeps I.bk
  obtain ⟨hp, g, dr, tk, os⟩ := s
  refine wpAny_call (made0 (mb := mb) T I.kIn hgl hbl hb2 hlim (by have := hr.dp; omega) hM hcdp fun h' tk' e M => ?_)
  show L2N.MkP X pins σ Q (.ref e) ⟨h', g, dr, tk', os⟩
  obtain ⟨oe, fv, hoe, hc, hd, hdat, h1, h2⟩ := M.obj
  have hz : L2N.Zn (.ref C) _ oe := ⟨hc, hd, fun vs' e' => by
    rw [hdat] at e'
    cases e'
    exact h2⟩
  exact ⟨e, oe, fv, ⟨hp, g, dr, tk, os⟩, H, .ref C, none, rfl, I, M.keep, (by
    cases z : hp.get? e with
    | none => rfl
    | some o => exact absurd (Nat.lt_of_lt_of_le (Heap.lt_size z) M.new) (Nat.lt_irrefl _)), hoe, hz, hdat, h1, I.hok.fresh M.new, rfl, I.bare, raises_own T.exC T.tyC, h⟩
/-- e.f, e the error that the suite holds (at a0; its class cls, its dict dd) -/
def tByF (C : Addr) (a0 : Addr) (cls : Value) (dd : Option Addr) (f : Str) (te : TE) : TE := fun σ H Q => te σ H fun x H1 => x = .ref a0 ∧ cls = .ref C ∧ ∃ (dx : Addr) (v : V), dd = some dx ∧ H1 dx = some (.xd [(f, v)]) ∧ Q v H1
theorem pe_byF {pars : Arguments} {body : List Stmt} {sc : Scope} {a0 : Addr} {oe : Obj} {cls : Value} {dd : Option Addr} {pn : List (Addr × Obj)} {x : Expr} {te : TE} {pos : Pos} (T : Cls1 X.prog X.K X.mg nm C fI pars body sc) (noN : PySem.W.findIn X.K (.ref C) f = some none) (hz : Zc cls dd oe) (hf : ∃ vs, oe.data = .fields vs) (he : PE (X.suite a0 ((a0, oe) :: pn)) x te)
    (hb : attributeBase x f X.env (eval x X.env) = eval x X.env := by rfl) :
    PE (X.suite a0 ((a0, oe) :: pn)) (.Attribute x f pos) (tByF C a0 cls dd f te) := by
  refine ⟨fun pins s σ H Q I h => ?_⟩
  refine attr_of hb (thn (he.run pins s σ H _ I h) fun u s1 hh => ?_)
  obtain ⟨x, H1, I1, rx, ex, ec, dx, v, ed, ea, q⟩ := hh
  subst ex
  obtain rfl : u = Value.ref a0 := rx
  subst ec
  subst ed
  obtain ⟨ha, _⟩ := I1.pin (a0, oe) (List.mem_append_left _ List.mem_cons_self)
  obtain ⟨vs, hd⟩ := hf
  have hx : ObjOk X.prog X.w H1 s1.heap dx (.xd [(f, v)]) := I1.hok dx _ ea
  obtain ⟨mA, hns, hr⟩ := hx
  obtain ⟨od, ho, hl⟩ := lookIn_ns hns
  have l : List.lookup f [(f, v)] = some v := by simp [List.lookup]
  obtain ⟨u, hu, ru⟩ := RelO.some_of (v := v) (o := mA f) (by rw [← l]; exact hr f)
  have J : PySem.W.InstAt s1.heap a0 oe C (some od) := ⟨ha, hz.1, by unfold PySem.W.notCls; rw [hd] <;> rfl, by rw [hz.2]; exact ho⟩
  exact HandSPX.exc_get I1.kIn J T.ga T.gg T.exC (PySem.W.findObj_own T.hdC noN rfl (by rw [hl, hu])) (handed_of ru) ⟨v, H1, I1.tok _, ru, q⟩
end

/-! ### defs that let out errors whose context is None; defs called within an except suite -/
section
variable {P : Program} {w : World} {K : PySem.W.Frag} {mg : Str → Option Value} {base : Heap}
theorem Fun.okN {x qual : Str} {st : Stmt} {f : Addr} {fd : FuncData} {N ps : List Str} {k : Nat} {sp : Sp} (F : Fun K x qual st f fd) (S : FnScope N ps (defScope st)) (len : ∀ vs H Q E, sp vs H Q E → vs.length = ps.length)
    (hbody : ∀ (cdv : Value) (A : Around) (outer : List Env) (s : Shared) (H : Hp) (vs : List V) (Q : VK) (E : XK), Room k (A.deeper (envOfC qual (defScope st) s.heap.objs.size f cdv)) → sp vs H Q E →
      ∃ t, PSs (cxOf (L2N.CX P w) P w K mg base N qual (defScope st) f cdv A outer s H E) (defBody st) t ∧ t { nx := fun _ H' => Q .non H', rt := Q } (start N vs) H) : FnOk P w K mg base (L2N.CX P w) (k + 1) f fd ps sp := by
  obtain ⟨oc, od, kV, doc, pm, an, cdv, ct, osl, rfl, lk, hcd⟩ := F.ex
  exact fn_of lk hcd S len fun A outer s H vs Q E hr hsp => hbody cdv A outer s H vs Q E hr hsp
theorem Fun.okH {CX : CXT} {x qual : Str} {st : Stmt} {f : Addr} {fd : FuncData} {N ps : List Str} {k : Nat} {sp : Sp} (F : Fun K x qual st f fd) (S : FnScope N ps (defScope st)) (len : ∀ vs H Q E, sp vs H Q E → vs.length = ps.length)
    (hbody : ∀ (cdv : Value) (A : Around) (outer : List Env) (s : Shared) (H : Hp) (vs : List V) (Q : VK) (E : XK) (p : Addr × Obj), L2H.Hot1 A p → L2H.RoomH k (A.deeper (envOfC qual (defScope st) s.heap.objs.size f cdv)) → sp vs H Q E →
      ∃ t, PSs (L2H.cxH CX P w K mg base N qual (defScope st) f cdv A outer s H E p) (defBody st) t ∧ t { nx := fun _ H' => Q .non H', rt := Q } (start N vs) H) : L2H.FnH P w K mg base CX (k + 1) f fd ps sp := by
  obtain ⟨oc, od, kV, doc, pm, an, cdv, ct, osl, rfl, lk, hcd⟩ := F.ex
  exact L2H.fn_ofH lk hcd S len fun A outer s H vs Q E p hot hr hsp => hbody cdv A outer s H vs Q E p hot hr hsp
end
section
variable {X : Cx}
/-- of a callee that raises nothing here -/
theorem passN : Passes (L2N.CX X.prog X.w) X E0 := fun _ _ _ _ _ _ _ h => by
  obtain ⟨_, _, _, _, _, _, _, _, _, _, _, _, z⟩ := h
  exact z.elim
theorem takes0N : L2N.Takes X (fun _ _ _ _ => False) := fun _ _ x => by
  obtain ⟨_, _, _, _, _, _, _, _, _, _, _, _, _, _, _, _, z⟩ := x
  exact z.elim
theorem pass0H {E : St → XK} : ∀ σ, PassesAt CX0 X σ (E σ) := fun _ _ _ _ _ _ _ h => h.elim
theorem hot_suite {a : Addr} {oe : Obj} {cls : Value} {d : Option Addr} {pn : List (Addr × Obj)} (hz : L2N.Zn cls d oe) (hf : ∃ vs, oe.data = .fields vs) : L2H.HotC (X.suite a ((a, oe) :: pn)) := by
  obtain ⟨vs, hv⟩ := hf
  exact ⟨(a, oe), ⟨rfl, vs, hv, hz.2.2 vs hv⟩, List.mem_cons_self⟩
theorem room_suite {k : Nat} {a : Addr} {pn : List (Addr × Obj)} (r : Room k X.A) : L2H.RoomH k (X.suite a pn).A := ⟨r.dp, r.un⟩
end
end L2

/-! Own objects: str(o) by the class's own __str__; // by any divisor other than zero; errors of a call in a try body whatever the slots hold. -/
namespace L2
open PySem PySem.Spec PyProof.Rows Er
section
variable {X : Cx}
/-- the same place, n units further in -/
theorem Inv.in1 {pins : List (Addr × Obj)} {σ : St} {H : Hp} {s : Shared} (I : Inv X pins σ H s) (n : Nat) : Inv { X with A := { X.A with units := n } } pins σ H s :=
  ⟨⟨I.ok.mod, I.ok.kind, I.ok.glob, I.ok.blt, I.ok.above, I.ok.inj, I.ok.has, I.ok.cab, I.ok.hd, I.ok.frames, I.ok.stk, I.ok.exf, I.ok.bs, I.ok.bsz, I.ok.noex, I.ok.exfs, I.ok.funs, I.ok.frf⟩,
    I.os, I.bare, I.base, I.loc, I.cell, I.free, I.freeC, I.pin, I.hok, I.len⟩
theorem Inv.out1 {pins : List (Addr × Obj)} {σ : St} {H : Hp} {s : Shared} {n : Nat} (I : Inv { X with A := { X.A with units := n } } pins σ H s) : Inv X pins σ H s :=
  ⟨⟨I.ok.mod, I.ok.kind, I.ok.glob, I.ok.blt, I.ok.above, I.ok.inj, I.ok.has, I.ok.cab, I.ok.hd, I.ok.frames, I.ok.stk, I.ok.exf, I.ok.bs, I.ok.bsz, I.ok.noex, I.ok.exfs, I.ok.funs, I.ok.frf⟩,
    I.os, I.bare, I.base, I.loc, I.cell, I.free, I.freeC, I.pin, I.hok, I.len⟩
theorem inst_of {pins : List (Addr × Obj)} {σ : St} {H : Hp} {s : Shared} (I : Inv X pins σ H s) {a C dx : Addr} {fs : List (Str × V)} (h : H a = some (.ins C dx fs)) : ∃ ox od, PySem.W.InstAt s.heap a ox C od := by
  obtain ⟨mA, O, _, _, _, _⟩ := ins_get I.hok h
  obtain ⟨od, ho, _⟩ := lookIn_ns O.ns
  exact ⟨_, some od, O.obj, rfl, rfl, ho⟩
/-- str(o), o of the class C with its own __str__ -/
def rStrO (C : Addr) (sp : Sp) (E : XK) : List V → Hp → VK → Prop := fun xs H Q => ∃ a dx fs, xs = [.ref a] ∧ H a = some (.ins C dx fs) ∧ sp [.ref a] H (fun v H' => ∃ z, v = .str z ∧ Q v H') E
theorem call_strO {CX : CXT} {k : Nat} {C g : Addr} {fd : FuncData} {sp : Sp} {E : XK} (hf : PySem.W.findIn X.K (.ref C) "__str__" = some (some (.ref g))) (hi : PySem.W.isFn X.K (.ref g) = true)
    (F : FnOk X.prog X.w X.K X.mg X.base CX k g fd ["self"] sp) (hr : Room (k + 1) X.A) (b : Binds X.K fd ["self"] []) (hx : Passes CX X E) : CallR X (.type "str") (rStrO C sp E) := by
  intro pins s σ H xs us Q I r h
  obtain ⟨a, dx, fs, rfl, ha, h⟩ := h
  cases r with
  | cons rx rr =>
    cases rr
    cases rx
    obtain ⟨ox, od, J⟩ := inst_of I ha
    have hu := hr.un
    refine PySem.W.kso_call (by show X.A.units + 1 + 1 < cLine; omega) I.kIn J hf hi ?_
    have hr' : Room k ({ X.A with units := X.A.units + 1 + 1 } : Around) := ⟨hr.hd, by have := hr.dp; show X.A.depth + 3 * k + 5 < _; omega, by show X.A.units + 1 + 1 + 16 * k + 200 < cLine; omega⟩
    have z := run_fn (X := { X with A := { X.A with units := X.A.units + 1 + 1 } }) (CX := CX) (Q := fun v H' => ∃ z, v = .str z ∧ Q v H') (vs := [.ref a]) (us := [.ref a]) F hr' b .nil (fun pins σ H s e s' I' h' => hx pins σ H s e s' I'.out1 h') (I.in1 _) (.cons rfl .nil) h
    refine thn z fun u s1 hh => ?_
    obtain ⟨v, H1, I1, rv, y, ev, q⟩ := hh
    subst ev
    obtain ⟨tk, rfl⟩ := rv
    exact ⟨.str y, H1, I1.out1, ⟨tk, rfl⟩, q⟩
/-- i // j, j any int other than zero -/
def CDivX : Int → Int → Prop := fun _ j => j ≠ 0 ∧ j.natAbs.log2 < 9000
theorem op_fdivX : OpR X (binaryOp .FloorDiv) (rI CDivX fun i j => .int (i.fdiv j)) := by
  intro pins s σ H x y v u Q I rv ru h
  obtain ⟨i, j, rfl, rfl, ⟨h0, h9⟩, q⟩ := h
  obtain ⟨_, rfl⟩ := rv
  obtain ⟨_, rfl⟩ := ru
  exact floordiv_int (Q := EP X pins σ Q) h0 ⟨V.int (i.fdiv j), H, I.tok _, ⟨_, rfl⟩, q⟩ (.inl (PyProof.noPylong_of_log2 h9))
theorem FunD.bindsF {K : PySem.W.Frag} {x qual : Str} {params : Arguments} {body : List Stmt} {scope : Scope} {dvs : List V} {kws : List (Str × V)} {f : Addr} {fd : FuncData} {ps : List Str} (F : FunD K x qual params body scope dvs kws f fd) (h : dvs ≠ [])
    (hb : ∀ (T : Addr) (kV doc pm : Value) (an : Option Addr) (cdv ct : Value) (us its : List Value), us.length = ps.length → its.length = dvs.length → ∃ k, bindArgs (PySem.W.fnOf x qual params body scope (Value.ref T) kV doc pm an cdv ct) { pos := us } = seqItems? (Value.ref T) >>= k ∧ k (some its.toArray) = pure (ps.zip us)) : Binds K fd ps [] := by
  obtain ⟨ds, hv, hd⟩ := F.binds1 (ps := ps) ps.length dvs.length h (by omega) fun T kV doc pm an cdv ct us its hu hi => by
    have z := hb T kV doc pm an cdv ct us its hu hi
    rw [show List.drop dvs.length its = [] from List.drop_eq_nil_of_le (by omega), List.append_nil]
    exact z
  rw [List.drop_eq_nil_of_le (Nat.le_refl _)] at hv
  cases hv
  exact hd
/-- an error of a call in a try body, whatever the slots hold then -/
theorem passLen {W : WX} (tk : L2N.Takes X W) : Passes (L2N.CX X.prog X.w) X (fun cls d H => ∀ σ : St, σ.length = X.N.length → W cls d σ H) := fun pins σ H s e s' I c => by
  refine L2N.passAt tk σ pins H s e s' I ?_
  obtain ⟨a, B, H', cls, d, h1, h2, h3, h4, h5, h6, h7, h8⟩ := c
  exact ⟨a, B, H', cls, d, h1, h2, h3, h4, h5, h6, h7, h8 σ I.len⟩
end
end L2

/-! Own operators: o + o, o + 3, 3 + o, o += .., -o, o < o, .. by the class's own methods. -/
namespace L2
open PySem PySem.Spec PyProof.Rows Er
/-- an int's own slot declines an own object -/
theorem declines {x C dx : Addr} {i : Int} {t : Tok} {name : String} {f : Int → Int → Sem PySem.Fin} : Meets (Builtin.Int.intBinary name f false { pos := [.int i t, .ref x] }) (fun A R s => s.heap.get? x = some (PySem.W.instObj C dx) ∧ R (.ok (.ret .notImplemented)) s) := by
  intro prog w A R s ⟨h, r⟩
  show wpAny _ _ (slotArgs name 1 { pos := [.int i t, .ref x] } >>= _) _ _ _
  refine wpAny_bind (wpAny_pure (a := (Value.int i t, [Value.ref x])) ?_)
  refine wpAny_bind ?_
  refine wpAny_bind (wpAny_pure (a := some i) ?_)
  refine wpAny_pure ?_
  refine wpAny_bind ?_
  refine wpAny_bind (wpAny_load h ?_)
  refine wpAny_pure ?_
  refine wpAny_bind (wpAny_rule ?_)
  exact wpAny_pure r
section
variable {prog : Program} {w : World} {A : Around} {E : Value → Shared → Prop} {s : Shared} {K : PySem.W.Frag} {x C dx f g : Addr} {ox : Obj} {od : Option Obj} {Q : Value → Shared → Prop} {i : Int} {t : Tok}
/-- the class at C stands right above object -/
def mro2 (K : PySem.W.Frag) (C : Addr) : Bool := (PySem.W.clsIn K C).any fun cd => cd.mro == [Value.ref C, Value.type "object"]
theorem mro2_cls {K : PySem.W.Frag} {C : Addr} (h : mro2 K C = true) : ∃ cd, PySem.W.clsIn K C = some cd ∧ cd.mro = [Value.ref C, Value.type "object"] := by
  unfold mro2 at h
  cases e : PySem.W.clsIn K C with
  | none =>
    rw [e] at h
    cases h
  | some cd =>
    rw [e] at h
    exact ⟨cd, rfl, eq_of_beq h⟩
/-- what the written part says of an operator nm with the class's own two methods, f on the left and g on the right -/
structure ROp (K : PySem.W.Frag) (C f g : Addr) (nm : String) : Prop where
  cls : mro2 K C = true
  l : PySem.W.findIn K (.ref C) (dunder nm) = some (some (.ref f))
  lf : PySem.W.isFn K (.ref f) = true
  r : PySem.W.findIn K (.ref C) (dunderR nm) = some (some (.ref g))
  fn : PySem.W.isFn K (.ref g) = true
  kit : PySem.W.kitCls K (.ref C) (.type "int") = some false
  kit2 : PySem.W.kitCls K (.type "int") (.ref C) = some false
  no : PySem.W.findIn K (.ref C) (dunderI nm) = some none
theorem bin1R {nm id : String} {B : Builtin} (R : ROp K C f g nm) (hs : Slot "int" (dunder nm) id) (he : entryFor table id = some B) (ha : argsOk id { pos := [.int i t, .ref x] })
    (hm : Meets (B { pos := [.int i t, .ref x] }) (fun A R s => s.heap.get? x = some (PySem.W.instObj C dx) ∧ R (.ok (.ret .notImplemented)) s))
    (hf : fillsNumberSlot (.type "int") nm = pure true) (X : K.In s.heap) (J : PySem.W.InstAt s.heap x (PySem.W.instObj C dx) C od)
    (h : wpAny (model prog w) A (call (.ref g) [.ref x, .int i t]) (PySem.W.CmpBack Q) E s) : wpAny (model prog w) A (binaryOp1 nm (.int i t) (.ref x)) (fun r s' => ∃ v, r = some v ∧ Q v s') E s := by
  obtain ⟨cd, hc, hmro⟩ := mro2_cls R.cls
  have hfl := R.l
  unfold binaryOp1
  refine wpAny_bind (wpAny_pure (a := Value.type "int") ?_)
  refine wpAny_bind (J.type _ _ _ _ (fun _ _ z => z) ?_)
  refine wpAny_bind ?_
  rw [hf]
  refine wpAny_pure ?_
  refine wpAny_bind (PySem.W.fills_K X hc hmro hfl _ _ _ _ (fun _ _ z => z) ?_)
  refine wpAny_bind ((PySem.W.kit_cls X R.kit).2.2 _ _ _ _ (fun _ _ z => z) ?_)
  refine wpAny_bind (wpAny_pure (a := false) ?_)
  refine wpAny_bind (wpAny_tryMethod_declines (T := "int") rfl hs (call_meets hs rfl he ha hm ⟨J.at_, ?_⟩))
  refine ⟨rfl, ?_⟩
  refine wpAny_bind (wpAny_mono (PySem.W.ksp_try X J R.r R.fn h) ?_ (fun _ _ z => z))
  rintro r s' ⟨v, rfl, q⟩
  refine wpAny_bind (wpAny_rule ?_)
  exact wpAny_pure ⟨v, rfl, q⟩
theorem bin1L {nm : String} {y : Addr} {oy : Obj} {ody : Option Obj} (R : ROp K C f g nm) (X : K.In s.heap) (J : PySem.W.InstAt s.heap x ox C od) (J2 : PySem.W.InstAt s.heap y oy C ody)
    (h : wpAny (model prog w) A (call (.ref f) [.ref x, .ref y]) (PySem.W.CmpBack Q) E s) : wpAny (model prog w) A (binaryOp1 nm (.ref x) (.ref y)) (fun r s' => ∃ v, r = some v ∧ Q v s') E s := by
  obtain ⟨cd, hc, hmro⟩ := mro2_cls R.cls
  unfold binaryOp1
  refine wpAny_bind (J.type _ _ _ _ (fun _ _ z => z) ?_)
  refine wpAny_bind (J2.type _ _ _ _ (fun _ _ z => z) ?_)
  refine wpAny_bind (PySem.W.fills_K X hc hmro R.l _ _ _ _ (fun _ _ z => z) ?_)
  simp only [beq_self_eq_true, if_true]
  refine wpAny_bind (wpAny_pure (a := false) ?_)
  simp only [Bool.and_false, Bool.false_and, Bool.false_eq_true, if_false]
  refine wpAny_bind (wpAny_pure (a := false) ?_)
  simp only [Bool.false_eq_true, if_false, if_true]
  refine wpAny_bind (wpAny_mono (PySem.W.ksp_try X J R.l R.lf h) ?_ (fun _ _ z => z))
  rintro r s' ⟨v, rfl, q⟩
  exact wpAny_pure ⟨v, rfl, q⟩
theorem bin1I {nm idr : String} (R : ROp K C f g nm) (hf : fillsNumberSlot (.type "int") nm = pure true) (hl : typeLookup (.type "int") (dunderR nm) = pure (some (.builtin idr))) (X : K.In s.heap) (J : PySem.W.InstAt s.heap x ox C od)
    (h : wpAny (model prog w) A (call (.ref f) [.ref x, .int i t]) (PySem.W.CmpBack Q) E s) : wpAny (model prog w) A (binaryOp1 nm (.ref x) (.int i t)) (fun r s' => ∃ v, r = some v ∧ Q v s') E s := by
  obtain ⟨cd, hc, hmro⟩ := mro2_cls R.cls
  unfold binaryOp1
  refine wpAny_bind (J.type _ _ _ _ (fun _ _ z => z) ?_)
  refine wpAny_bind (wpAny_pure (a := Value.type "int") ?_)
  refine wpAny_bind (PySem.W.fills_K X hc hmro R.l _ _ _ _ (fun _ _ z => z) ?_)
  refine wpAny_bind ?_
  rw [hf]
  refine wpAny_pure ?_
  refine wpAny_bind ((PySem.W.kit_cls X R.kit2).2.2 _ _ _ _ (fun _ _ z => z) ?_)
  refine wpAny_bind (PySem.W.ksp_inPy X R.l R.r (.inr ⟨g, rfl⟩) _ _ _ _ (fun _ _ z => z) ?_)
  refine wpAny_bind (wpAny_pure (a := false) ?_)
  refine wpAny_bind ?_
  rw [hl]
  refine wpAny_pure ?_
  refine wpAny_bind (wpAny_mono (PySem.W.ksp_try X J R.l R.lf h) ?_ (fun _ _ z => z))
  rintro r s' ⟨v, rfl, q⟩
  exact wpAny_pure ⟨v, rfl, q⟩
/-- from what binaryOp1 gives -/
theorem bin_of {op : Operator} {a b : Value} (h : wpAny (model prog w) A (binaryOp1 op.info.2 a b) (fun r s' => ∃ v, r = some v ∧ Q v s') E s) : wpAny (model prog w) A (binaryOp op a b) Q E s := by
  unfold binaryOp
  refine wpAny_holding ?_
  refine wpAny_bind (wpAny_mono h ?_ (fun _ _ z => z))
  rintro r s' ⟨v, rfl, q⟩
  exact wpAny_pure q
theorem ip_of {op : Operator} {b : Value} (hm : mro2 K C = true) (no : PySem.W.findIn K (.ref C) (dunderI op.info.2) = some none) (no2 : PySem.W.findIn K (.type "object") (dunderI op.info.2) = some none) (X : K.In s.heap) (J : PySem.W.InstAt s.heap x ox C od)
    (h : wpAny (model prog w) A (binaryOp1 op.info.2 (.ref x) b) (fun r s' => ∃ v, r = some v ∧ Q v s') E s) : wpAny (model prog w) A (inplaceOp op (.ref x) b) Q E s := by
  obtain ⟨cd, hc, hmro⟩ := mro2_cls hm
  unfold inplaceOp
  refine wpAny_holding ?_
  refine wpAny_bind (J.type _ _ _ _ (fun _ _ z => z) ?_)
  refine wpAny_bind ?_
  have fi : wpAny (model prog w) A (fillsInplaceSlot (.ref C) op.info.2 (op == .Add)) (fun r s' => r = false ∧ s' = s) E s := by
    unfold fillsInplaceSlot
    refine wpAny_bind ?_
    refine wpAny_bind (PySem.W.looks_clsIn X hc _ _ _ _ (fun _ _ z => z) ?_)
    refine wpAny_pure ?_
    rw [hmro]
    refine wpAny_bind ?_
    refine wpAny_bind (PySem.W.looks_findIn X no _ _ _ _ (fun _ _ z => z) ?_)
    refine wpAny_pure ?_
    refine wpAny_bind ?_
    refine wpAny_bind (PySem.W.looks_findIn X no2 _ _ _ _ (fun _ _ z => z) ?_)
    refine wpAny_pure ?_
    exact wpAny_pure ⟨rfl, rfl⟩
  refine wpAny_mono fi ?_ (fun _ _ z => z)
  rintro r s' ⟨rfl, rfl⟩
  refine wpAny_bind (wpAny_mono h ?_ (fun _ _ z => z))
  rintro r s' ⟨v, rfl, q⟩
  exact wpAny_pure q
end
section
variable {X : Cx}
/-- the left hand an own object (the right one another, or an int), or the left hand an int and the right one an own object, or two ints; spF: the class's own method, spR: its reflected one -/
def rBin (C : Addr) (spF spR : Sp) (E E2 : XK) (gi : Int → Int → V) : R2 := fun x y H Q =>
  (∃ a dx fs b dy gs, x = .ref a ∧ y = .ref b ∧ H a = some (.ins C dx fs) ∧ H b = some (.ins C dy gs) ∧ spF [x, y] H Q E) ∨
  (∃ a dx fs j, x = .ref a ∧ y = .int j ∧ H a = some (.ins C dx fs) ∧ spF [x, y] H Q E) ∨
  (∃ i b dy gs, x = .int i ∧ y = .ref b ∧ H b = some (.ins C dy gs) ∧ spR [y, x] H Q E2)
theorem back_of {pins : List (Addr × Obj)} {σ : St} {Q : VK} {u : Value} {s1 : Shared} (h : EP X pins σ Q u s1) : PySem.W.CmpBack (EP X pins σ Q) u s1 := by
  have h0 := h
  obtain ⟨v, H, I, r, q⟩ := h
  cases u with
  | notImplemented => cases v <;> first | (cases r; done) | (obtain ⟨_, z⟩ := r; cases z)
  | _ => exact h0
theorem inst_of' {pins : List (Addr × Obj)} {σ : St} {H : Hp} {s : Shared} (I : Inv X pins σ H s) {a C dx : Addr} {fs : List (Str × V)} (h : H a = some (.ins C dx fs)) : ∃ od, PySem.W.InstAt s.heap a (PySem.W.instObj C dx) C od := by
  obtain ⟨mA, O, _, _, _, _⟩ := ins_get I.hok h
  obtain ⟨od, ho, _⟩ := lookIn_ns O.ns
  exact ⟨some od, O.obj, rfl, rfl, ho⟩
/-- the facts of the int's side of an operator -/
structure IntOp (nm : String) : Prop where
  ok : ∃ (id idr : String) (B : Builtin), Slot "int" (dunder nm) id ∧ entryFor table id = some B ∧ (∀ a b : Value, argsOk id { pos := [a, b] }) ∧ (∀ (i : Int) (t : Tok) (x C dx : Addr), Meets (B { pos := [.int i t, .ref x] }) (fun A R s => s.heap.get? x = some (PySem.W.instObj C dx) ∧ R (.ok (.ret .notImplemented)) s)) ∧ fillsNumberSlot (.type "int") nm = pure true ∧ typeLookup (.type "int") (dunderR nm) = pure (some (.builtin idr))
variable {CX1 CX2 : CXT} {C f g : Addr} {fd gd : FuncData} {k k2 : Nat} {spF spR : Sp} {E E2 : XK} {op : Operator} {gi : Int → Int → V}
theorem bin1_own (R : ROp X.K C f g op.info.2) (IO : IntOp op.info.2) (F : FnOk X.prog X.w X.K X.mg X.base CX1 k f fd ["self", "other"] spF) (G : FnOk X.prog X.w X.K X.mg X.base CX2 k2 g gd ["self", "other"] spR) (hr : Room k X.A) (hr2 : Room k2 X.A)
    (bF : Binds X.K fd ["self", "other"] []) (bG : Binds X.K gd ["self", "other"] []) (hx : Passes CX1 X E) (hx2 : Passes CX2 X E2)
    (pins : List (Addr × Obj)) (s : Shared) (σ : St) (H : Hp) (x y : V) (v u : Value) (Q : VK) (I : Inv X pins σ H s) (rx : RelV x v) (ry : RelV y u) (h : rBin C spF spR E E2 gi x y H Q) :
    wpAny (model X.prog X.w) X.A (binaryOp1 op.info.2 v u) (fun r s' => ∃ v, r = some v ∧ EP X pins σ Q v s') X.xe s := by
  obtain ⟨id, idr, B, hs, he, ha, hm, hfl, hl⟩ := IO.ok
  rcases h with ⟨a, dx, fs, b, dy, gs, rfl, rfl, hA, hB, h⟩ | ⟨a, dx, fs, j, rfl, rfl, hA, h⟩ | ⟨i, b, dy, gs, rfl, rfl, hB, h⟩
  · cases rx
    cases ry
    obtain ⟨_, J⟩ := inst_of' I hA
    obtain ⟨_, J2⟩ := inst_of' I hB
    exact bin1L R I.kIn J J2 (wpAny_mono (run_fn (vs := [.ref a, .ref b]) (us := [.ref a, .ref b]) (dvs := []) F hr bF .nil hx I (.cons rfl (.cons rfl .nil)) h) (fun _ _ z => back_of z) (fun _ _ z => z))
  · cases rx
    obtain ⟨t, rfl⟩ := ry
    obtain ⟨_, J⟩ := inst_of' I hA
    exact bin1I R hfl hl I.kIn J (wpAny_mono (run_fn (vs := [.ref a, .int j]) (us := [.ref a, .int j t]) (dvs := []) F hr bF .nil hx I (.cons rfl (.cons ⟨t, rfl⟩ .nil)) h) (fun _ _ z => back_of z) (fun _ _ z => z))
  · obtain ⟨t, rfl⟩ := rx
    cases ry
    obtain ⟨_, J⟩ := inst_of' I hB
    exact bin1R R hs he (ha _ _) (hm _ _ _ C dy) hfl I.kIn J (wpAny_mono (run_fn (vs := [.ref b, .int i]) (us := [.ref b, .int i t]) (dvs := []) G hr2 bG .nil hx2 I (.cons rfl (.cons ⟨t, rfl⟩ .nil)) h) (fun _ _ z => back_of z) (fun _ _ z => z))
/-- the left hand an own object, the right one another or an int -/
def rBinL (C : Addr) (spF : Sp) (E : XK) : R2 := fun x y H Q =>
  (∃ a dx fs b dy gs, x = .ref a ∧ y = .ref b ∧ H a = some (.ins C dx fs) ∧ H b = some (.ins C dy gs) ∧ spF [x, y] H Q E) ∨
  (∃ a dx fs j, x = .ref a ∧ y = .int j ∧ H a = some (.ins C dx fs) ∧ spF [x, y] H Q E)
theorem op_ownL (R : ROp X.K C f g op.info.2) (IO : IntOp op.info.2) (F : FnOk X.prog X.w X.K X.mg X.base CX1 k f fd ["self", "other"] spF) (hr : Room k X.A)
    (bF : Binds X.K fd ["self", "other"] []) (hx : Passes CX1 X E) : OpR X (binaryOp op) (rBinL C spF E) := fun pins s σ H x y v u Q I rx ry h => bin_of (by
  obtain ⟨id, idr, B, hs, he, ha, hm, hfl, hl⟩ := IO.ok
  rcases h with ⟨a, dx, fs, b, dy, gs, rfl, rfl, hA, hB, h⟩ | ⟨a, dx, fs, j, rfl, rfl, hA, h⟩
  · cases rx
    cases ry
    obtain ⟨_, J⟩ := inst_of' I hA
    obtain ⟨_, J2⟩ := inst_of' I hB
    exact bin1L R I.kIn J J2 (wpAny_mono (run_fn (vs := [.ref a, .ref b]) (us := [.ref a, .ref b]) (dvs := []) F hr bF .nil hx I (.cons rfl (.cons rfl .nil)) h) (fun _ _ z => back_of z) (fun _ _ z => z))
  · cases rx
    obtain ⟨t, rfl⟩ := ry
    obtain ⟨_, J⟩ := inst_of' I hA
    exact bin1I R hfl hl I.kIn J (wpAny_mono (run_fn (vs := [.ref a, .int j]) (us := [.ref a, .int j t]) (dvs := []) F hr bF .nil hx I (.cons rfl (.cons ⟨t, rfl⟩ .nil)) h) (fun _ _ z => back_of z) (fun _ _ z => z)))
theorem op_own (R : ROp X.K C f g op.info.2) (IO : IntOp op.info.2) (F : FnOk X.prog X.w X.K X.mg X.base CX1 k f fd ["self", "other"] spF) (G : FnOk X.prog X.w X.K X.mg X.base CX2 k2 g gd ["self", "other"] spR) (hr : Room k X.A) (hr2 : Room k2 X.A)
    (bF : Binds X.K fd ["self", "other"] []) (bG : Binds X.K gd ["self", "other"] []) (hx : Passes CX1 X E) (hx2 : Passes CX2 X E2) : OpR X (binaryOp op) (rBin C spF spR E E2 gi) :=
  fun pins s σ H x y v u Q I rx ry h => bin_of (bin1_own R IO F G hr hr2 bF bG hx hx2 pins s σ H x y v u Q I rx ry h)
/-- x op= y, x an own object, without a method of its own for it -/
def rIp (C : Addr) (spF spR : Sp) (E E2 : XK) (gi : Int → Int → V) : TIp := fun x y H Q => rBin C spF spR E E2 gi x y H Q ∧ ∃ a dx fs, x = .ref a ∧ H a = some (.ins C dx fs)
theorem ip_own (R : ROp X.K C f g op.info.2) (no2 : PySem.W.findIn X.K (.type "object") (dunderI op.info.2) = some none) (IO : IntOp op.info.2) (F : FnOk X.prog X.w X.K X.mg X.base CX1 k f fd ["self", "other"] spF) (G : FnOk X.prog X.w X.K X.mg X.base CX2 k2 g gd ["self", "other"] spR) (hr : Room k X.A) (hr2 : Room k2 X.A)
    (bF : Binds X.K fd ["self", "other"] []) (bG : Binds X.K gd ["self", "other"] []) (hx : Passes CX1 X E) (hx2 : Passes CX2 X E2) : PIp X op (rIp C spF spR E E2 gi) := fun pins s σ H x y v u Q I rx ry h => by
  obtain ⟨h, a, dx, fs, rfl, hA⟩ := h
  have z := bin1_own R IO F G hr hr2 bF bG hx hx2 pins s σ H _ y v u Q I rx ry h
  cases rx
  obtain ⟨_, J⟩ := inst_of' I hA
  exact ip_of R.cls R.no no2 I.kIn J z
theorem io_add : IntOp "add" := ⟨"int.__add__", _, _, PySem.F.slot_int_add, PySem.F.entry_int_add, args_int_add, fun i t x C dx => declines, PySem.F.fills_int_add, rfl⟩
theorem io_sub : IntOp "sub" := ⟨"int.__sub__", _, _, PySem.F.slot_int_sub, PySem.F.entry_int_sub, args_int_sub, fun i t x C dx => declines, PySem.F.fills_int_sub, rfl⟩
theorem io_mul : IntOp "mul" := ⟨"int.__mul__", _, _, PySem.F.slot_int_mul, PySem.F.entry_int_mul, args_int_mul, fun i t x C dx => declines, PySem.F.fills_int_mul, rfl⟩
/-- -x, x an int or an own object -/
def rNeg (C : Addr) (sp : Sp) (E : XK) : V → Hp → VK → Prop := fun x H Q => (∃ i, x = .int i ∧ Q (.int (-i)) H) ∨ (∃ a dx fs, x = .ref a ∧ H a = some (.ins C dx fs) ∧ sp [x] H Q E)
theorem un_own {sp : Sp} {CX : CXT} (hf : PySem.W.findIn X.K (.ref C) "__neg__" = some (some (.ref f))) (hi : PySem.W.isFn X.K (.ref f) = true) (F : FnOk X.prog X.w X.K X.mg X.base CX k f fd ["self"] sp) (hr : Room k X.A) (b : Binds X.K fd ["self"] []) (hx : Passes CX X E) : UnR X (unaryOp .USub) (rNeg C sp E) := by
  intro pins s σ H x v Q I rx h
  rcases h with ⟨i, rfl, q⟩ | ⟨a, dx, fs, rfl, hA, h⟩
  · exact un_neg pins s σ H _ v Q I rx ⟨i, rfl, q⟩
  · cases rx
    obtain ⟨_, J⟩ := inst_of' I hA
    obtain ⟨m, fr⟩ := I.fr
    exact PySem.W.ksp_neg fr I.ok.mod.kin J hf hi (run_fn (vs := [.ref a]) (us := [.ref a]) (dvs := []) F hr b .nil hx I (.cons rfl .nil) h)
end
end L2

/-! The int's side of // declines an own object; defs called in an except suite with the handled error as argument; isinstance of that error there. -/
namespace L2
open PySem PySem.Spec PyProof.Rows Er
theorem declinesDiv {x C dx : Addr} {i : Int} {t : Tok} : Meets (Builtin.«int.__floordiv__» { pos := [.int i t, .ref x] }) (fun A R s => s.heap.get? x = some (PySem.W.instObj C dx) ∧ R (.ok (.ret .notImplemented)) s) := by
  intro prog w A R s ⟨h, r⟩
  show wpAny _ _ (Builtin.exactOperandsForPylong false { pos := [.int i t, .ref x] } >>= fun _ => Builtin.Int.intBinary "__floordiv__" _ false { pos := [.int i t, .ref x] }) _ _ _
  refine wpAny_bind ?_
  unfold Builtin.exactOperandsForPylong
  rw [if_pos (by rfl)]
  dsimp only
  refine wpAny_bind (wpAny_pure (a := some i) ?_)
  refine wpAny_bind ?_
  refine wpAny_bind (wpAny_load h ?_)
  refine wpAny_pure ?_
  refine wpAny_pure ?_
  exact declines prog w A R s ⟨h, r⟩
theorem io_div : IntOp "floordiv" := ⟨"int.__floordiv__", _, _, PySem.F.slot_int_floordiv, PySem.F.entry_int_floordiv, fun a b => PySem.F.args_int_floordiv_2 _ _, fun i t x C dx => declinesDiv, PySem.F.fills_int_floordiv, rfl⟩
/-! ### a def called in an except suite with the handled error -/
/-- such a def's promise may speak of the handled error p -/
structure FnP (P : Program) (w : World) (K : PySem.W.Frag) (mg : Str → Option Value) (base : Heap) (k : Nat) (f : Addr) (fd : FuncData) (ps : List Str) (sp : Addr × Obj → Sp) : Prop where
  ar : ∀ p us H Q E, sp p us H Q E → us.length = ps.length
  go : ∀ (p : Addr × Obj) (B : Around) (env : List Env) (st : Shared) (G : Hp) (ar : Args) (ws : List Value) (xs : List V) (Q : VK) (E : XK),
    L2H.RoomH k B → L2H.Hot1 B p → L2H.PinOk env G st p → Env0 P w K mg base B env st G → BindsTo st fd ar (ps.zip ws) → Vals xs ws → sp p xs G Q E →
      codeAny (model P w) B (.call (.ref f) ar) (CR CX0 env P w G st Q E) st
theorem Fun.okP {P : Program} {w : World} {K : PySem.W.Frag} {mg : Str → Option Value} {base : Heap} {x qual : Str} {st : Stmt} {f : Addr} {fd : FuncData} {N ps : List Str} {k : Nat} {sp : Addr × Obj → Sp} (F : Fun K x qual st f fd) (S : FnScope N ps (defScope st))
    (ar : ∀ p us H Q E, sp p us H Q E → us.length = ps.length)
    (hbody : ∀ (p : Addr × Obj) (cdv : Value) (B : Around) (env : List Env) (s : Shared) (G : Hp) (xs : List V) (Q : VK) (E : XK), L2H.Hot1 B p → sp p xs G Q E →
      ∃ t, PSs (L2H.cxH CX0 P w K mg base N qual (defScope st) f cdv B env s G E p) (defBody st) t ∧ t { nx := fun _ H' => Q .non H', rt := Q } (start N xs) G) : FnP P w K mg base (k + 1) f fd ps sp := by
  obtain ⟨oc, od, kV, doc, pm, an, cdv, ct, osl, rfl, lk, hcd⟩ := F.ex
  refine ⟨ar, ?_⟩
  intro p B env s G args ws xs Q E room hot pin e0 bind vals promise
  have lenx := ar _ _ _ _ _ promise
  have KX : K.In s.heap := e0.mod.kin.keeps fun b o z => (e0.bs b o z).1
  have nolim : s.heap.NoLimit := e0.mod.nolimit.keeps fun b o z => (e0.bs b o z).1
  have kinds : ∀ y ∈ ps.zip ws, (defScope st).names.lookup y.1 = some .local ∨ ((defScope st).names.lookup y.1 = some .cell ∧ ((cellsFrom (s.heap.objs.size + 1) (defScope st).names []).lookup y.1).isSome = true) := by
    intro y hy
    obtain ⟨n, v⟩ := y
    cases S.par n (List.of_mem_zip hy).1 with
    | inl q => exact Or.inl q
    | inr q => exact Or.inr ⟨q, PySem.W.cellsFrom_some _ _ _ (Or.inl q)⟩
  refine codeAny_call_function room.depth (KX _ _ lk) rfl S.co S.gen rfl (PySem.W.codeRec_of KX hcd) (bind _ _ _ _ ?_)
  refine wpAny_newFunctionEnv_cells S.kind kinds ?_
  intro env' he s1 x
  subst he
  refine ⟨nolim.keeps x.toInCall.keep, codeAny_func ?_⟩
  obtain ⟨t, ht, reads⟩ := hbody p cdv B env s G xs Q E hot promise
  have J := L2H.inv_startH (CX := CX0) (E := E) S pin e0 lenx vals x
  refine wpAny_mono (ht.run [] s1 (start N xs) G _ J reads) ?_ (fun _ _ z => z)
  intro fl s' hs
  cases fl with
  | ret u =>
    obtain ⟨v, σ', H', I', rv, q⟩ := hs
    exact ⟨v, H', I'.os, I'.bare, I'.base, I'.hok, rv, q⟩
  | next =>
    obtain ⟨σ', H', I', q⟩ := hs
    exact ⟨V.non, H', I'.os, I'.bare, I'.base, I'.hok, rfl, q⟩
  | brk =>
    obtain ⟨_, _, _, q⟩ := hs
    exact q.elim
  | cont =>
    obtain ⟨_, _, _, q⟩ := hs
    exact q.elim
section
variable {X : Cx} {k : Nat} {f : Addr} {fd : FuncData} {ps : List Str} {sp : Addr × Obj → Sp} {x : Str} {q pos : Pos} {e : Expr} {es : List Expr} {t : TA} {p : Addr × Obj}
/-- the call of such a def, its promise as the caller says it -/
theorem pe_callQ {sq : Sp} (F : FnP X.prog X.w X.K X.mg X.base k f fd ps sp) (room : L2H.RoomH k X.A) (hot : L2H.Hot1 X.A p) (hp : p ∈ X.pn) (hg : Gl X x) (hm : X.mg x = some (.ref f)) (hk : PySem.W.keepIn X.K (.ref f) = true) (hb : Binds X.K fd ps []) (hw : ∀ vs H Q, sq vs H Q E0 → sp p vs H Q E0)
    (ha : PA X (e :: es) t) (hdb : (x == ("__debug__" : Str)) = false := by decide) (he : starEach (e :: es) X.env = (false, eval e X.env) :: starEach es X.env := by rfl) (hpl : (backTo pos (starEach es X.env)).any (·.1) = false := by rfl) :
    PE X (.Call (.Name x q) (e :: es) [] pos) (tCall sq [] E0 t) := by
  refine ⟨?_⟩
  intro pins s σ H Q I h
  refine wpAny_Call_Name_kw (ld_glob I hg hm ?_ hdb)
  refine PySem.W.callWith_K (h₀ := X.base) I.ok.mod.kin hk (thn (ha.run pos pins s σ H _ I h) ?_) he hpl
  intro us s1 hh
  obtain ⟨vs, H1, I1, r, q1⟩ := hh
  rw [List.append_nil] at q1
  replace q1 := hw _ _ _ q1
  refine ⟨I1.kIn, ?_⟩
  have lenu : us.length = ps.length := by
    rw [← r.length]
    exact F.ar _ _ _ _ _ q1
  have b := hb s1 us I1.kIn (by rw [List.append_nil]; exact lenu)
  rw [List.append_nil] at b
  have P1 := I1.pin p (List.mem_append_left _ hp)
  have pin : L2H.PinOk X.stack H1 s1 p := ⟨P1.1, P1.2.1, fun hm' => (List.mem_cons.mp (I1.stkSub p.1 hm')).elim P1.2.2.1 P1.2.2.2.1, P1.2.2.2.2⟩
  refine wpAny_call (codeAny_mono (F.go p X.A X.stack s1 H1 ⟨us, []⟩ us vs Q E0 room hot pin I1.env0 b r q1) ?_)
  intro r2 s' hq
  cases r2 with
  | error er => exact False.elim hq
  | ok fl =>
    cases fl with
    | ret u => exact I1.after hq
    | next => exact hq.elim
    | brk => exact hq.elim
    | cont => exact hq.elim
/-- isinstance of the handled error, held anywhere -/
theorem call_isP {a D : Addr} {cls : Value} {dd : Option Addr} {oe : Obj} (C : ExcC X.K D) (hp : (a, oe) ∈ X.pn) (hz : Zc cls dd oe) (hf : ∃ vs, oe.data = .fields vs) : CallR X (.builtin "isinstance") (rIsF X.K D a cls dd) := by
  intro pins s σ H xs us Q I r h
  obtain ⟨ecls, c, cv, b, rfl, hcv, hdd, e, q⟩ := h
  subst ecls
  cases r with
  | cons rx rr =>
    cases rr with
    | cons rt rr =>
      cases rr
      cases rx
      have ec := hcv _ rt
      subst ec
      obtain ⟨hget, _⟩ := I.pin (a, oe) (List.mem_append.mpr (.inl hp))
      obtain ⟨vs, hv⟩ := hf
      have hcl : (PySem.W.clsIn X.K D).isSome = true := by
        obtain ⟨cd, hc, _⟩ := PySem.W.any_some C.hd
        rw [hc]
        rfl
      have J : ∃ od, PySem.W.InstAt s.heap a oe D od := by
        obtain ⟨oc, od, oda, osl⟩ := oe
        obtain ⟨h1, h2⟩ := hz
        dsimp only at h1 h2 hv
        subst h1 h2 hv
        cases od with
        | none => exact ⟨none, hget, rfl, rfl, trivial⟩
        | some dx =>
          obtain ⟨fs, hx⟩ := hdd dx rfl
          have ok : ObjOk X.prog X.w H s.heap dx (.xd fs) := I.hok dx _ hx
          obtain ⟨mA, hns, hr⟩ := ok
          obtain ⟨od, ho, hl⟩ := lookIn_ns hns
          exact ⟨some od, hget, rfl, rfl, ho⟩
      obtain ⟨od, J⟩ := J
      exact PySem.W.kia_one (PySem.W.kitx_exc hcl C.hg C.hk C.hs C.ha C.hn C.ht C.hm) I.kIn J e (fun z => nomatch z) fun tk => ⟨.bl b, H, I.kept (t' := tk) fun _ _ z => z, rfl, q⟩
theorem hot1_suite {X : Cx} {a : Addr} {oe : Obj} {cls : Value} {d : Option Addr} {pn : List (Addr × Obj)} (hz : L2N.Zn cls d oe) (hf : ∃ vs, oe.data = .fields vs) : L2H.Hot1 (X.suite a ((a, oe) :: pn)).A (a, oe) := by
  obtain ⟨vs, hv⟩ := hf
  exact ⟨rfl, vs, hv, hz.2.2 vs hv⟩
end
end L2

/-! A static method called by its class's name; a display whose first item is a written text and more (so that a token is out behind it). -/
namespace L2
open PySem PySem.Spec PyProof.Rows Er
/-- C.m is a static method: its record at p, its def at g -/
structure SMet (K : PySem.W.Frag) (C : Addr) (mc : Value) (m : Str) (p g : Addr) : Prop where
  rd : PySem.W.readsIn K C mc = true
  ga : PySem.W.specialIn K (.ref C) "__getattribute__" = some (some (.builtin "type.__getattribute__"))
  at_ : PySem.W.findCls K (.ref C) mc m = some (.get (.builtin "staticmethod.__get__") (.ref p) .none (.ref C))
  rc : ∃ rest, PySem.W.recIn K p "staticmethod" = some (.ref g :: rest)
  kp : PySem.W.keepIn K (.ref g) = true
/-- C.m(..), C the class at C0, m a static method -/
def tSMeth (C : Addr) (sp : Sp) (E : XK) (ta : TE) (t : TA) : TE := fun σ H Q => ta σ H fun x H1 => x = .ref C ∧ t σ H1 fun vs H2 => sp vs H2 Q E
section
variable {X : Cx} {CX : CXT} {k : Nat} {C p g : Addr} {mc : Value} {sp : Sp} {E : XK} {o e : Expr} {es : List Expr} {m : Str} {pos apos : Pos} {ta : TE} {t : TA} {fd : FuncData} {ps : List Str} {pl : Sem Bool}
theorem pe_smeth (he : PE X o ta) (c : SMet X.K C mc m p g) (F : FnOk X.prog X.w X.K X.mg X.base CX k g fd ps sp) (hr : Room k X.A) (hb : Binds X.K fd ps []) (hx : Passes CX X E) (ha : PA X (e :: es) t)
    (hst : starEach (e :: es) X.env = (false, eval e X.env) :: starEach es X.env := by rfl) (hpl : (backTo pos (starEach es X.env)).any (·.1) = false := by rfl)
    (ht : eval (.Call (.Attribute o m apos) (e :: es) [] pos) X.env = (do
      let ov ← eval o X.env
      standAt apos.atName
      let (f, first) ← holding [ov] (getMethod ov m pl)
      callWith pos f first (backTo pos (starEach (e :: es) X.env)) (backToKw pos (keywordEach [] X.env))) := by rfl) :
    PE X (.Call (.Attribute o m apos) (e :: es) [] pos) (tSMeth C sp E ta t) := by
  refine ⟨?_⟩
  intro pins s σ H Q I h
  refine PySem.W.methodCall_KW (pl := pl) (thn (he.run pins s σ H _ I h) ?_) ht
  intro u s1 hh
  obtain ⟨x, H1, I1, rx, ex, q⟩ := hh
  subst ex
  obtain rfl : u = Value.ref C := rx
  obtain ⟨rest, hp⟩ := c.rc
  refine PySem.W.method_cls I1.kIn c.ga ?_
  refine PySem.W.cls_bind I1.kIn c.rd c.at_ ?_
  refine wpAny_call (PySem.W.sm_get (s := { s1 with toks := s1.toks + 1 }) I1.kIn hp (PySem.W.handed_on rfl ?_))
  have I2 := I1.tok (s1.toks + 1)
  refine PySem.W.callWith_K (first := []) (h₀ := X.base) I.ok.mod.kin c.kp (thn (ha.run pos pins _ σ H1 _ I2 q) ?_) hst hpl
  intro us s2 h2
  obtain ⟨vs, H2, I3, r, q2⟩ := h2
  exact ⟨I3.kIn, run_fn (dvs := []) F hr hb .nil hx I3 r (by rw [List.append_nil]; exact q2)⟩
/-- the same, what is raised wished for at the caller's slots -/
def tSMethS (C : Addr) (sp : Sp) (E : St → XK) (ta : TE) (t : TA) : TE := fun σ H Q => ta σ H fun x H1 => x = .ref C ∧ t σ H1 fun vs H2 => sp vs H2 Q (E σ)
theorem pe_smethS {ES : St → XK} (he : PE X o ta) (c : SMet X.K C mc m p g) (F : FnOk X.prog X.w X.K X.mg X.base CX k g fd ps sp) (hr : Room k X.A) (hb : Binds X.K fd ps []) (hx : ∀ σ, PassesAt CX X σ (ES σ)) (ha : PA X (e :: es) t)
    (hst : starEach (e :: es) X.env = (false, eval e X.env) :: starEach es X.env := by rfl) (hpl : (backTo pos (starEach es X.env)).any (·.1) = false := by rfl)
    (ht : eval (.Call (.Attribute o m apos) (e :: es) [] pos) X.env = (do
      let ov ← eval o X.env
      standAt apos.atName
      let (f, first) ← holding [ov] (getMethod ov m pl)
      callWith pos f first (backTo pos (starEach (e :: es) X.env)) (backToKw pos (keywordEach [] X.env))) := by rfl) :
    PE X (.Call (.Attribute o m apos) (e :: es) [] pos) (tSMethS C sp ES ta t) := by
  refine ⟨?_⟩
  intro pins s σ H Q I h
  refine PySem.W.methodCall_KW (pl := pl) (thn (he.run pins s σ H _ I h) ?_) ht
  intro u s1 hh
  obtain ⟨x, H1, I1, rx, ex, q⟩ := hh
  subst ex
  obtain rfl : u = Value.ref C := rx
  obtain ⟨rest, hp⟩ := c.rc
  refine PySem.W.method_cls I1.kIn c.ga ?_
  refine PySem.W.cls_bind I1.kIn c.rd c.at_ ?_
  refine wpAny_call (PySem.W.sm_get (s := { s1 with toks := s1.toks + 1 }) I1.kIn hp (PySem.W.handed_on rfl ?_))
  have I2 := I1.tok (s1.toks + 1)
  refine PySem.W.callWith_K (first := []) (h₀ := X.base) I.ok.mod.kin c.kp (thn (ha.run pos pins _ σ H1 _ I2 q) ?_) hst hpl
  intro us s2 h2
  obtain ⟨vs, H2, I3, r, q2⟩ := h2
  exact ⟨I3.kIn, run_fnSD (dvs := []) (E := ES) F hr hb .nil (hx σ) I3 r (by rw [List.append_nil]; exact q2)⟩
end
section
variable {X : Cx} {c : Str} {j : Nat} {e2 : Expr} {es : List Expr} {t2 : TE} {ta : TA} {p1 p2 : Pos} {r : R2} {op : Operator}
/-- a written text and more, then what wants a token -/
theorem pa_catT (ho : OpR X (binaryOp op) r) (h2 : PE X e2 t2) (hr : PAT X es ta)
    (hs : starEach (.BinOp (.Constant (.str c) j p1) op e2 p2 :: es) X.env = (false, eval (.BinOp (.Constant (.str c) j p1) op e2 p2) X.env) :: starEach es X.env := by rfl) : PA X (.BinOp (.Constant (.str c) j p1) op e2 p2 :: es) (tCons (tOp r (tC (.str c)) t2) ta) := by
  refine ⟨?_⟩
  intro pos pins s σ H Q I h
  rw [hs]
  show wpAny _ _ (spliced ((false, eval (.BinOp (.Constant (.str c) j p1) op e2 p2) X.env) :: backTo pos (starEach es X.env))) _ _ s
  refine Calls.spliced_cons ?_
  refine wpAny_BinOp (Calls.Constant_str ?_)
  have I1 := I.tok (s.toks + 1)
  refine wpAny_mono (PySem.wpAny_toks (h2.run pins { s with toks := s.toks + 1 } σ H _ I1 h)) ?_ (fun _ _ z => z.2)
  intro u s2 hh
  obtain ⟨hk, y, H2, I2, ry, q⟩ := hh
  refine wpAny_mono (PySem.wpAny_toks (ho pins s2 σ H2 (.str c) y (.str c s.toks) u _ I2 ⟨s.toks, rfl⟩ ry q)) ?_ (fun _ _ z => z.2)
  intro v s3 h3
  obtain ⟨hk3, x, H3, I3, rx, q3⟩ := h3
  have h1 : 1 ≤ s3.toks := by
    have z : s.toks + 1 ≤ s2.toks := hk
    omega
  refine thn (hr pos pins s3 σ H3 _ h1 I3 q3) ?_
  intro us s4 h4
  obtain ⟨xs, H4, I4, r4, q4⟩ := h4
  exact ⟨x :: xs, H4, I4, .cons rx r4, q4⟩
end
end L2
namespace Er
open PySem PySem.W PySem.Calls PyProof.Rows PySem.HandSPX
/-- f'c{f!r}' of a longer text -/
theorem msg_crL {f : Str} {y : Str} {t : Tok} {c : Str} {p q p1 p2 : Pos} {k : Nat} (hF : Fld f) (hc : c.length ≤ 1000) (hz : (reprText y).length ≤ 5000) : Msg (.JoinedStr [.Constant (.str c) k p1, .FormattedValue (.Name f p) 114 none q] p2) f (.str y t) (scope1 f) where
  call := fun env a b c' d e => ⟨_, call_eq e rfl⟩
  star := fun env => rfl
  swap := fun _ _ _ _ _ _ => rfl
  text := fun prog w A E env s m Q he hn hv h => by
    have z0 : (Str.empty ++ c).length ≤ 0 + 1000 := app_le (Nat.le_refl _) hc
    have z1 : (Str.empty ++ c ++ reprText y).length ≤ 0 + 1000 + 5000 := app_le z0 hz
    have b0 : (6000 : Nat) ≤ sizeLine := by rw [sizeLine_eq]; decide
    refine wpAny_JoinedStr ?_
    refine wpAny_Constant_str ⟨c, _, rfl, Nat.le_trans z0 (Nat.le_trans (by decide) b0), ?_⟩
    refine part_r (sc := scope1 f) hF.kf rfl hF.dbg he (s := { s with toks := s.toks + 1 }) hn hv (Nat.le_trans hz (Nat.le_trans (by decide) b0)) fun tk n => ⟨_, _, rfl, Nat.le_trans z1 b0, ?_⟩
    exact ⟨Nat.le_trans z1 b0, h _ _ _⟩
end Er

namespace Hk6
open PySem PySem.Spec PyProof.Rows L2 Er
def topS (i : Nat) : Stmt := PySem.Challenge.pw_renamedhorn_k06_shares_read_back.main.body.getD i (.Pass ⟨0, 0, 0, 0⟩)
abbrev s__reads_as_integer : Stmt := (topS 14)
abbrev N__reads_as_integer : List Str := ["text", "digits"]
theorem sc__reads_as_integer : FnScope N__reads_as_integer ["text"] (defScope s__reads_as_integer) := ⟨rfl, rfl, rfl, by decide +kernel, rfl, by decide +kernel, by decide +kernel⟩
abbrev s_Share_init : Stmt := (inClass (topS 15) 0)
abbrev N_Share_init : List Str := ["self", "top", "bottom", "common"]
theorem sc_Share_init : FnScope N_Share_init ["self", "top", "bottom"] (defScope s_Share_init) := ⟨rfl, rfl, rfl, by decide +kernel, rfl, by decide +kernel, by decide +kernel⟩
abbrev s_Share_read : Stmt := (inClass (topS 15) 1)
abbrev N_Share_read : List Str := ["text", "share", "top", "slash", "bottom"]
theorem sc_Share_read : FnScope N_Share_read ["text"] (defScope s_Share_read) := ⟨rfl, rfl, rfl, by decide +kernel, rfl, by decide +kernel, by decide +kernel⟩
abbrev s_Share_str : Stmt := (inClass (topS 15) 19)
abbrev N_Share_str : List Str := ["self"]
theorem sc_Share_str : FnScope N_Share_str ["self"] (defScope s_Share_str) := ⟨rfl, rfl, rfl, by decide +kernel, rfl, by decide +kernel, by decide +kernel⟩
abbrev s__law_source : Stmt := (topS 17)
abbrev N__law_source : List Str := ["_law_script"]
theorem sc__law_source : FnScope N__law_source ["_law_script"] (defScope s__law_source) := ⟨rfl, rfl, rfl, by decide +kernel, rfl, by decide +kernel, by decide +kernel⟩
abbrev s__law_take : Stmt := (topS 18)
abbrev N__law_take : List Str := ["_law_source_here", "_law_many", "_law_mixed", "_law_cell", "_law_value"]
theorem sc__law_take : FnScope N__law_take ["_law_source_here", "_law_many"] (defScope s__law_take) := ⟨rfl, rfl, rfl, by decide +kernel, rfl, by decide +kernel, by decide +kernel⟩
abbrev s__law_same : Stmt := (topS 19)
abbrev N__law_same : List Str := ["_law_one", "_law_other", "_law_lists", "_law_k"]
theorem sc__law_same : FnScope N__law_same ["_law_one", "_law_other"] (defScope s__law_same) := ⟨rfl, rfl, rfl, by decide +kernel, rfl, by decide +kernel, by decide +kernel⟩
abbrev s__law_gcd : Stmt := (topS 20)
abbrev N__law_gcd : List Str := ["_law_one", "_law_other", "_law_k", "_law_rest"]
theorem sc__law_gcd : FnScope N__law_gcd ["_law_one", "_law_other"] (defScope s__law_gcd) := ⟨rfl, rfl, rfl, by decide +kernel, rfl, by decide +kernel, by decide +kernel⟩
abbrev s__law_is_share : Stmt := (topS 21)
abbrev N__law_is_share : List Str := ["_law_share", "_law_top", "_law_bottom", "_law_common"]
theorem sc__law_is_share : FnScope N__law_is_share ["_law_share", "_law_top", "_law_bottom"] (defScope s__law_is_share) := ⟨rfl, rfl, rfl, by decide +kernel, rfl, by decide +kernel, by decide +kernel⟩
abbrev s__law_number : Stmt := (topS 22)
abbrev N__law_number : List Str := ["_law_source_here", "_law_parts", "_law_number_here", "_law_k"]
theorem sc__law_number : FnScope N__law_number ["_law_source_here", "_law_parts"] (defScope s__law_number) := ⟨rfl, rfl, rfl, by decide +kernel, rfl, by decide +kernel, by decide +kernel⟩
abbrev s__law_share_text : Stmt := (topS 23)
abbrev N__law_share_text : List Str := ["_law_top", "_law_bottom", "_law_common"]
theorem sc__law_share_text : FnScope N__law_share_text ["_law_top", "_law_bottom"] (defScope s__law_share_text) := ⟨rfl, rfl, rfl, by decide +kernel, rfl, by decide +kernel, by decide +kernel⟩
abbrev s__law_sign : Stmt := (topS 24)
abbrev N__law_sign : List Str := ["_law_source_here", "_law_signs"]
theorem sc__law_sign : FnScope N__law_sign ["_law_source_here"] (defScope s__law_sign) := ⟨rfl, rfl, rfl, by decide +kernel, rfl, by decide +kernel, by decide +kernel⟩
abbrev s__law_changed : Stmt := (topS 25)
abbrev N__law_changed : List Str := ["_law_source_here", "_law_text_here", "_law_at", "_law_sign_here", "_law_style"]
theorem sc__law_changed : FnScope N__law_changed ["_law_source_here", "_law_text_here"] (defScope s__law_changed) := ⟨rfl, rfl, rfl, by decide +kernel, rfl, by decide +kernel, by decide +kernel⟩
abbrev s__law_text : Stmt := (topS 26)
abbrev N__law_text : List Str := ["_law_source_here", "_law_style", "_law_top", "_law_bottom", "_law_text_here", "_law_choice", "_law_long"]
theorem sc__law_text : FnScope N__law_text ["_law_source_here"] (defScope s__law_text) := ⟨rfl, rfl, rfl, by decide +kernel, rfl, by decide +kernel, by decide +kernel⟩
abbrev s__law_figures : Stmt := (topS 27)
abbrev N__law_figures : List Str := ["_law_text_here", "_law_sign_here"]
theorem sc__law_figures : FnScope N__law_figures ["_law_text_here"] (defScope s__law_figures) := ⟨rfl, rfl, rfl, by decide +kernel, rfl, by decide +kernel, by decide +kernel⟩
abbrev s__law_parted : Stmt := (topS 28)
abbrev N__law_parted : List Str := ["_law_text_here", "_law_below", "_law_parts", "_law_top", "_law_bottom", "_law_part"]
theorem sc__law_parted : FnScope N__law_parted ["_law_text_here"] (defScope s__law_parted) := ⟨rfl, rfl, rfl, by decide +kernel, rfl, by decide +kernel, by decide +kernel⟩
abbrev s__law_refused : Stmt := (topS 29)
abbrev N__law_refused : List Str := ["_law_text_here", "error", "_law_right"]
theorem sc__law_refused : FnScope N__law_refused ["_law_text_here"] (defScope s__law_refused) := ⟨rfl, rfl, rfl, by decide +kernel, rfl, by decide +kernel, by decide +kernel⟩
abbrev s_law : Stmt := (topS 30)
abbrev N_law : List Str := ["_law_script", "_law_source_here", "_law_k", "_law_text_here", "_law_due", "_law_share"]
theorem sc_law : FnScope N_law ["_law_script"] (defScope s_law) := ⟨rfl, rfl, rfl, by decide +kernel, rfl, by decide +kernel, by decide +kernel⟩
abbrev me_BadName : PySem.Expr := (.JoinedStr [(.Constant (.str "not a name: ") 0 ⟨11, 27, 11, 39⟩), (.FormattedValue (.Name "text" ⟨11, 40, 11, 44⟩) 114 none ⟨11, 39, 11, 47⟩)] ⟨11, 25, 11, 48⟩)
abbrev ea_BadName : Arguments := (args1 "text" ⟨10, 17, 10, 21⟩ ⟨10, 23, 10, 27⟩)
abbrev eb_BadName : List Stmt := [supS me_BadName ⟨11, 8, 11, 13⟩ ⟨11, 8, 11, 15⟩ ⟨11, 8, 11, 24⟩ ⟨11, 8, 11, 49⟩ ⟨11, 8, 11, 49⟩, keepS "text" ⟨12, 8, 12, 12⟩ ⟨12, 8, 12, 17⟩ ⟨12, 20, 12, 24⟩ ⟨12, 8, 12, 24⟩]
abbrev me_BadShare : PySem.Expr := (.JoinedStr [(.Constant (.str "not the text of a share: ") 0 ⟨16, 27, 16, 52⟩), (.FormattedValue (.Name "text" ⟨16, 53, 16, 57⟩) 114 none ⟨16, 52, 16, 60⟩)] ⟨16, 25, 16, 61⟩)
abbrev ea_BadShare : Arguments := (args1 "text" ⟨15, 17, 15, 21⟩ ⟨15, 23, 15, 27⟩)
abbrev eb_BadShare : List Stmt := [supS me_BadShare ⟨16, 8, 16, 13⟩ ⟨16, 8, 16, 15⟩ ⟨16, 8, 16, 24⟩ ⟨16, 8, 16, 62⟩ ⟨16, 8, 16, 62⟩, keepS "text" ⟨17, 8, 17, 12⟩ ⟨17, 8, 17, 17⟩ ⟨17, 20, 17, 24⟩ ⟨17, 8, 17, 24⟩]
abbrev me_ZeroBelow : PySem.Expr := (.Constant (.str "zero stands below") 0 ⟨21, 25, 21, 44⟩)
abbrev ea_ZeroBelow : Arguments := (args0 ⟨20, 17, 20, 21⟩)
abbrev eb_ZeroBelow : List Stmt := [supS me_ZeroBelow ⟨21, 8, 21, 13⟩ ⟨21, 8, 21, 15⟩ ⟨21, 8, 21, 24⟩ ⟨21, 8, 21, 45⟩ ⟨21, 8, 21, 45⟩]
theorem fld_text : Fld "text" := ⟨fun _ _ _ _ _ _ _ _ _ _ _ _ _ _ => rfl, rfl, by decide, rfl, rfl, rfl, by decide⟩
structure Txt (P : Program) (K : PySem.W.Frag) (mg : Str → Option Value) where
  C_Share : Addr
  g_Share : mg "Share" = some (.ref C_Share)
  cl_Share : Cls K C_Share
  mi_Share : PySem.W.makesIn K C_Share = true
  kc_Share : PySem.W.keepIn K (.ref C_Share) = true
  ins_Share : C8.InsC K C_Share
  na_Share_top : NoAttr K C_Share "top"
  na_Share_bottom : NoAttr K C_Share "bottom"
  v_gcd : mg "gcd" = some (.builtin "math.gcd")
  f__reads_as_integer : Addr
  d__reads_as_integer : FuncData
  F__reads_as_integer : Fun K "_reads_as_integer" "_reads_as_integer" s__reads_as_integer f__reads_as_integer d__reads_as_integer
  b__reads_as_integer : Binds K d__reads_as_integer ["text"] []
  g__reads_as_integer : mg "_reads_as_integer" = some (.ref f__reads_as_integer)
  f_Share_init : Addr
  d_Share_init : FuncData
  F_Share_init : FunD K "__init__" "Share.__init__" (defArgs s_Share_init) (defBody s_Share_init) (defScope s_Share_init) [.int 1] [] f_Share_init d_Share_init
  b_Share_init : Binds K d_Share_init ["self", "top", "bottom"] []
  bd_Share_init : ∃ ds, Vals [.int 1] ds ∧ Binds K d_Share_init ["self", "top", "bottom"] ds
  m_Share_init : PySem.W.findIn K (.ref C_Share) "__init__" = some (some (.ref f_Share_init))
  i_Share_init : PySem.W.isFn K (.ref f_Share_init) = true
  f_Share_read : Addr
  d_Share_read : FuncData
  F_Share_read : Fun K "read" "Share.read" s_Share_read f_Share_read d_Share_read
  p_Share_read : Addr
  S_Share_read : SMet K C_Share (.type "type") "read" p_Share_read f_Share_read
  b_Share_read : Binds K d_Share_read ["text"] []
  f_Share_str : Addr
  d_Share_str : FuncData
  F_Share_str : Fun K "__str__" "Share.__str__" s_Share_str f_Share_str d_Share_str
  m_Share_str : PySem.W.findIn K (.ref C_Share) "__str__" = some (some (.ref f_Share_str))
  i_Share_str : PySem.W.isFn K (.ref f_Share_str) = true
  b_Share_str : Binds K d_Share_str ["self"] []
  f__law_source : Addr
  d__law_source : FuncData
  F__law_source : Fun K "_law_source" "_law_source" s__law_source f__law_source d__law_source
  b__law_source : Binds K d__law_source ["_law_script"] []
  g__law_source : mg "_law_source" = some (.ref f__law_source)
  f__law_take : Addr
  d__law_take : FuncData
  F__law_take : Fun K "_law_take" "_law_take" s__law_take f__law_take d__law_take
  b__law_take : Binds K d__law_take ["_law_source_here", "_law_many"] []
  g__law_take : mg "_law_take" = some (.ref f__law_take)
  f__law_same : Addr
  d__law_same : FuncData
  F__law_same : Fun K "_law_same" "_law_same" s__law_same f__law_same d__law_same
  b__law_same : Binds K d__law_same ["_law_one", "_law_other"] []
  g__law_same : mg "_law_same" = some (.ref f__law_same)
  f__law_gcd : Addr
  d__law_gcd : FuncData
  F__law_gcd : Fun K "_law_gcd" "_law_gcd" s__law_gcd f__law_gcd d__law_gcd
  b__law_gcd : Binds K d__law_gcd ["_law_one", "_law_other"] []
  g__law_gcd : mg "_law_gcd" = some (.ref f__law_gcd)
  f__law_is_share : Addr
  d__law_is_share : FuncData
  F__law_is_share : Fun K "_law_is_share" "_law_is_share" s__law_is_share f__law_is_share d__law_is_share
  b__law_is_share : Binds K d__law_is_share ["_law_share", "_law_top", "_law_bottom"] []
  g__law_is_share : mg "_law_is_share" = some (.ref f__law_is_share)
  f__law_number : Addr
  d__law_number : FuncData
  F__law_number : Fun K "_law_number" "_law_number" s__law_number f__law_number d__law_number
  b__law_number : Binds K d__law_number ["_law_source_here", "_law_parts"] []
  g__law_number : mg "_law_number" = some (.ref f__law_number)
  f__law_share_text : Addr
  d__law_share_text : FuncData
  F__law_share_text : Fun K "_law_share_text" "_law_share_text" s__law_share_text f__law_share_text d__law_share_text
  b__law_share_text : Binds K d__law_share_text ["_law_top", "_law_bottom"] []
  g__law_share_text : mg "_law_share_text" = some (.ref f__law_share_text)
  f__law_sign : Addr
  d__law_sign : FuncData
  F__law_sign : Fun K "_law_sign" "_law_sign" s__law_sign f__law_sign d__law_sign
  b__law_sign : Binds K d__law_sign ["_law_source_here"] []
  g__law_sign : mg "_law_sign" = some (.ref f__law_sign)
  f__law_changed : Addr
  d__law_changed : FuncData
  F__law_changed : Fun K "_law_changed" "_law_changed" s__law_changed f__law_changed d__law_changed
  b__law_changed : Binds K d__law_changed ["_law_source_here", "_law_text_here"] []
  g__law_changed : mg "_law_changed" = some (.ref f__law_changed)
  f__law_text : Addr
  d__law_text : FuncData
  F__law_text : Fun K "_law_text" "_law_text" s__law_text f__law_text d__law_text
  b__law_text : Binds K d__law_text ["_law_source_here"] []
  g__law_text : mg "_law_text" = some (.ref f__law_text)
  f__law_figures : Addr
  d__law_figures : FuncData
  F__law_figures : Fun K "_law_figures" "_law_figures" s__law_figures f__law_figures d__law_figures
  b__law_figures : Binds K d__law_figures ["_law_text_here"] []
  g__law_figures : mg "_law_figures" = some (.ref f__law_figures)
  f__law_parted : Addr
  d__law_parted : FuncData
  F__law_parted : Fun K "_law_parted" "_law_parted" s__law_parted f__law_parted d__law_parted
  b__law_parted : Binds K d__law_parted ["_law_text_here"] []
  g__law_parted : mg "_law_parted" = some (.ref f__law_parted)
  f__law_refused : Addr
  d__law_refused : FuncData
  F__law_refused : Fun K "_law_refused" "_law_refused" s__law_refused f__law_refused d__law_refused
  b__law_refused : Binds K d__law_refused ["_law_text_here"] []
  g__law_refused : mg "_law_refused" = some (.ref f__law_refused)
  f_law : Addr
  d_law : FuncData
  F_law : Fun K "law" "law" s_law f_law d_law
  b_law : Binds K d_law ["_law_script"] []
  g_law : mg "law" = some (.ref f_law)
  t_MOST_DIGITS : Tok
  v_MOST_DIGITS : mg "MOST_DIGITS" = some (.int 60 t_MOST_DIGITS)
  C_HornError : Addr
  g_HornError : mg "HornError" = some (.ref C_HornError)
  C_BadName : Addr
  i_BadName : Addr
  E_BadName : Cls1 P K mg "BadName" C_BadName i_BadName ea_BadName eb_BadName (scope1 "text")
  o_BadName : PySem.W.findIn K (.ref C_BadName) "text" = some none
  x_BadName : ExcC K C_BadName
  C_BadShare : Addr
  i_BadShare : Addr
  E_BadShare : Cls1 P K mg "BadShare" C_BadShare i_BadShare ea_BadShare eb_BadShare (scope1 "text")
  o_BadShare : PySem.W.findIn K (.ref C_BadShare) "text" = some none
  x_BadShare : ExcC K C_BadShare
  C_ZeroBelow : Addr
  i_ZeroBelow : Addr
  E_ZeroBelow : Cls1 P K mg "ZeroBelow" C_ZeroBelow i_ZeroBelow ea_ZeroBelow eb_ZeroBelow scope0
  x_ZeroBelow : ExcC K C_ZeroBelow
  k_BadName_BadName : ∃ b, PySem.W.kitOne K (.ref C_BadName) (.ref C_BadName) = some b ∧ b = true
  k_BadName_HornError : ∃ b, PySem.W.kitOne K (.ref C_BadName) (.ref C_HornError) = some b ∧ b = true
  k_BadName_ValueError : ∃ b, PySem.W.kitOne K (.ref C_BadName) (.type "ValueError") = some b ∧ b = true
  k_BadShare_BadName : ∃ b, PySem.W.kitOne K (.ref C_BadShare) (.ref C_BadName) = some b ∧ b = false
  k_BadShare_HornError : ∃ b, PySem.W.kitOne K (.ref C_BadShare) (.ref C_HornError) = some b ∧ b = true
  k_BadShare_ValueError : ∃ b, PySem.W.kitOne K (.ref C_BadShare) (.type "ValueError") = some b ∧ b = true
  k_ZeroBelow_BadName : ∃ b, PySem.W.kitOne K (.ref C_ZeroBelow) (.ref C_BadName) = some b ∧ b = false
  k_ZeroBelow_HornError : ∃ b, PySem.W.kitOne K (.ref C_ZeroBelow) (.ref C_HornError) = some b ∧ b = true
  k_ZeroBelow_ValueError : ∃ b, PySem.W.kitOne K (.ref C_ZeroBelow) (.type "ValueError") = some b ∧ b = true
  n_NotImplemented : mg "NotImplemented" = none
  n_ValueError : mg "ValueError" = none
  n_abs : mg "abs" = none
  n_all : mg "all" = none
  n_bool : mg "bool" = none
  n_int : mg "int" = none
  n_isinstance : mg "isinstance" = none
  n_len : mg "len" = none
  n_list : mg "list" = none
  n_range : mg "range" = none
  n_staticmethod : mg "staticmethod" = none
  n_str : mg "str" = none
  n_super : mg "super" = none
  n_tuple : mg "tuple" = none
/-- the law gets a list of at most 63 ints and hands back True -/
def spLaw (K : PySem.W.Frag) : Sp := fun vs H Q _ => ∃ (a : Addr) (ns : List Int), vs = [.ref a] ∧ SqL K H a (ns.map V.int) ∧ ns.length ≤ 63 ∧ ∀ H', Q (.bl true) H'
section
variable {P : Program} {w : World} {K : PySem.W.Frag} {mg : Str → Option Value} {base : Heap}
/-! ### lowest terms -/
/-- the common factor with the bottom's sign -/
def com (t b : Int) : Int := if b < 0 then -((Nat.gcd t.natAbs b.natAbs : Nat) : Int) else ((Nat.gcd t.natAbs b.natAbs : Nat) : Int)
def lowT (t b : Int) : Int := t.fdiv (com t b)
def lowB (t b : Int) : Int := b.fdiv (com t b)
/-- Euclid by floor rests, at most n steps -/
def gcdF : Nat → Int → Int → Int
  | 0, _, _ => 1
  | n + 1, a, b => if b = 0 then (if a < 0 then -a else a) else gcdF n b (a.fmod b)
theorem absI (a : Int) : (if a < 0 then -a else a) = (a.natAbs : Int) := by
  split <;> omega
theorem com_ne {t b : Int} (h : b ≠ 0) : com t b ≠ 0 := by
  have g : 0 < Nat.gcd t.natAbs b.natAbs := Nat.gcd_pos_of_pos_right _ (by omega)
  unfold com
  split <;> omega
theorem com_abs (t b : Int) : (com t b).natAbs = Nat.gcd t.natAbs b.natAbs := by
  unfold com
  split <;> omega
theorem com_le {t b : Int} (h : b ≠ 0) : (com t b).natAbs ≤ b.natAbs := by
  rw [com_abs]
  exact Nat.le_of_dvd (by omega) (Nat.gcd_dvd_right _ _)
theorem com_dvdT (t b : Int) : com t b ∣ t := Int.natAbs_dvd_natAbs.mp (by rw [com_abs]; exact Nat.gcd_dvd_left _ _)
theorem com_dvdB (t b : Int) : com t b ∣ b := Int.natAbs_dvd_natAbs.mp (by rw [com_abs]; exact Nat.gcd_dvd_right _ _)
theorem fdiv_le {t c : Int} (h : c ≠ 0) (d : c ∣ t) : (t.fdiv c).natAbs ≤ t.natAbs := by
  obtain ⟨q, rfl⟩ := d
  rw [Int.mul_fdiv_cancel_left _ h, Int.natAbs_mul]
  exact Nat.le_mul_of_pos_left _ (by omega)
theorem lowT_le {t b : Int} (h : b ≠ 0) : (lowT t b).natAbs ≤ t.natAbs := fdiv_le (com_ne h) (com_dvdT t b)
theorem lowB_le {t b : Int} (h : b ≠ 0) : (lowB t b).natAbs ≤ b.natAbs := fdiv_le (com_ne h) (com_dvdB t b)
theorem com_mul (t b : Int) {f : Int} (hf : f ≠ 0) (hb : b ≠ 0) : com (t * f) (b * f) = com t b * f := by
  have e : Nat.gcd (t * f).natAbs (b * f).natAbs = Nat.gcd t.natAbs b.natAbs * f.natAbs := by
    rw [Int.natAbs_mul, Int.natAbs_mul, Nat.gcd_mul_right]
  unfold com
  rw [e]
  rcases Int.lt_or_gt_of_ne hf with h | h <;> rcases Int.lt_or_gt_of_ne hb with h2 | h2
  · have z : 0 < b * f := Int.mul_pos_of_neg_of_neg h2 h
    rw [if_neg (by omega), if_pos h2]
    have y : (f.natAbs : Int) = -f := by omega
    rw [Int.natCast_mul, y, Int.mul_neg, Int.neg_mul]
  · have z : b * f < 0 := Int.mul_neg_of_pos_of_neg h2 h
    rw [if_pos z, if_neg (by omega)]
    have y : (f.natAbs : Int) = -f := by omega
    rw [Int.natCast_mul, y, Int.mul_neg, Int.neg_neg]
  · have z : b * f < 0 := Int.mul_neg_of_neg_of_pos h2 h
    rw [if_pos z, if_pos h2]
    have y : (f.natAbs : Int) = f := by omega
    rw [Int.natCast_mul, y, Int.neg_mul]
  · have z : 0 < b * f := Int.mul_pos h2 h
    rw [if_neg (by omega), if_neg (by omega)]
    have y : (f.natAbs : Int) = f := by omega
    rw [Int.natCast_mul, y]
theorem fdiv_cancel (t : Int) {c f : Int} (hf : f ≠ 0) (hc : c ≠ 0) (d : c ∣ t) : (t * f).fdiv (c * f) = t.fdiv c := by
  obtain ⟨q, rfl⟩ := d
  rw [Int.mul_fdiv_cancel_left _ hc]
  have e : c * q * f = c * f * q := by rw [Int.mul_assoc, Int.mul_comm q f, ← Int.mul_assoc]
  rw [e, Int.mul_fdiv_cancel_left _ (Int.mul_ne_zero hc hf)]
theorem lowT_mul (t b : Int) {f : Int} (hf : f ≠ 0) (hb : b ≠ 0) : lowT (t * f) (b * f) = lowT t b := by
  unfold lowT
  rw [com_mul t b hf hb]
  exact fdiv_cancel t hf (com_ne hb) (com_dvdT t b)
theorem lowB_mul (t b : Int) {f : Int} (hf : f ≠ 0) (hb : b ≠ 0) : lowB (t * f) (b * f) = lowB t b := by
  unfold lowB
  rw [com_mul t b hf hb]
  exact fdiv_cancel b hf (com_ne hb) (com_dvdB t b)
theorem gcd_step (a b : Int) : Nat.gcd b.natAbs (a.fmod b).natAbs = Nat.gcd a.natAbs b.natAbs := by
  have e : a.fmod b = a + b * (-(a.fdiv b)) := by
    have z := Int.fmod_add_mul_fdiv a b
    rw [Int.mul_neg]
    omega
  show Int.gcd b (a.fmod b) = Int.gcd a b
  rw [e, Int.gcd_add_mul_left_right, Int.gcd_comm]
theorem half {b r : Int} (hr : r ≠ 0) (hs : (0 < b ∧ 0 < r ∧ r < b) ∨ (b < 0 ∧ r < 0 ∧ b < r)) : 2 * (b.fmod r).natAbs < b.natAbs := by
  have key : ∀ x y : Nat, 0 < y → y < x → 2 * (x % y) < x := fun x y h0 h1 => by
    have a1 := Nat.mod_lt x h0
    have a2 := Nat.div_add_mod x y
    have a3 : 1 ≤ x / y := (Nat.le_div_iff_mul_le h0).mpr (by omega)
    have a4 : y ≤ y * (x / y) := Nat.le_mul_of_pos_right _ a3
    omega
  rcases hs with ⟨h1, h2, h3⟩ | ⟨h1, h2, h3⟩
  · obtain ⟨x, rfl⟩ : ∃ x : Nat, b = (x : Int) := ⟨b.toNat, by omega⟩
    obtain ⟨y, rfl⟩ : ∃ y : Nat, r = (y : Int) := ⟨r.toNat, by omega⟩
    rw [Int.fmod_eq_emod_of_nonneg _ (by omega)]
    have := key x y (by omega) (by omega)
    have e : ((x : Int) % (y : Int)).natAbs = x % y := by
      rw [← Int.natCast_emod]
      rfl
    rw [e]
    omega
  · obtain ⟨x, rfl⟩ : ∃ x : Nat, b = -(x : Int) := ⟨(-b).toNat, by omega⟩
    obtain ⟨y, rfl⟩ : ∃ y : Nat, r = -(y : Int) := ⟨(-r).toNat, by omega⟩
    rw [Int.neg_fmod_neg, Int.fmod_eq_emod_of_nonneg _ (by omega)]
    have := key x y (by omega) (by omega)
    have e : (-((x : Int) % (y : Int))).natAbs = x % y := by
      rw [← Int.natCast_emod, Int.natAbs_neg]
      rfl
    rw [e]
    omega
theorem fmod_sign (a : Int) {b : Int} (h : b ≠ 0) (hr : a.fmod b ≠ 0) : (0 < b ∧ 0 < a.fmod b ∧ a.fmod b < b) ∨ (b < 0 ∧ a.fmod b < 0 ∧ b < a.fmod b) := by
  rcases Int.lt_or_gt_of_ne h with h1 | h1
  · right
    have e : a.fmod b = -((-a).fmod (-b)) := by
      have z := Int.neg_fmod_neg (-a) (-b)
      simp only [Int.neg_neg] at z
      exact z
    have l := Int.fmod_nonneg_of_pos (-a) (b := -b) (by omega)
    have u := Int.fmod_lt_of_pos (-a) (b := -b) (by omega)
    refine ⟨h1, ?_, ?_⟩ <;> omega
  · left
    have l := Int.fmod_nonneg_of_pos a (b := b) h1
    have u := Int.fmod_lt_of_pos a (b := b) h1
    refine ⟨h1, ?_, ?_⟩ <;> omega
theorem gcdF_eq : ∀ (k n : Nat) (a b : Int), b.natAbs < 2 ^ k → 2 * k + 1 ≤ n → gcdF n a b = ((Nat.gcd a.natAbs b.natAbs : Nat) : Int) := by
  intro k
  induction k with
  | zero =>
    intro n a b hb hn
    obtain ⟨m, rfl⟩ : ∃ m, n = m + 1 := ⟨n - 1, by omega⟩
    have e : b = 0 := by omega
    subst e
    unfold gcdF
    rw [if_pos rfl, absI]
    simp
  | succ k ih =>
    intro n a b hb hn
    obtain ⟨m, rfl⟩ : ∃ m, n = m + 3 := ⟨n - 3, by omega⟩
    unfold gcdF
    by_cases e : b = 0
    · subst e
      rw [if_pos rfl, absI]
      simp
    · rw [if_neg e, ← gcd_step a b]
      unfold gcdF
      by_cases e2 : a.fmod b = 0
      · rw [if_pos e2, e2, absI]
        simp
      · rw [if_neg e2, ← gcd_step b (a.fmod b)]
        refine ih _ _ _ ?_ (by omega)
        have z := half e2 (fmod_sign a e e2)
        have p : 2 ^ (k + 1) = 2 * 2 ^ k := by rw [Nat.pow_succ, Nat.mul_comm]
        omega
/-! ### a share -/
def fS (t b : Int) : List (Str × V) := [("top", .int t), ("bottom", .int b)]
/-- a share of class C with these two fields stands at x -/
def ShrAt (C : Addr) (H : Hp) (x : Addr) (t b : Int) : Prop := ∃ dx, H x = some (.ins C dx (fS t b))
theorem ShrAt.mono {C x : Addr} {H H' : Hp} {t b : Int} (S : ShrAt C H x t b) (e : Evl.Ex H H') : ShrAt C H' x t b := by
  obtain ⟨dx, h⟩ := S
  exact ⟨dx, e _ _ h⟩
def Sz (i : Int) : Prop := i.natAbs < 2 ^ 420
theorem log_of {n k : Nat} (h : n < 2 ^ k) (h0 : 0 < k) : n.log2 < k := by
  by_cases e : n = 0
  · subst e
    simpa using h0
  · exact (Nat.log2_lt e).mpr h
theorem Sz.log {i : Int} (h : Sz i) : i.natAbs.log2 < 1920 := Nat.lt_trans (log_of h (by decide)) (by decide)
theorem sz_small {i : Int} (h : i.natAbs < 10 ^ 100) : Sz i := Nat.lt_trans h (by decide +kernel)
theorem Sz.le {i j : Int} (h : Sz j) (l : i.natAbs ≤ j.natAbs) : Sz i := Nat.lt_of_le_of_lt l h
theorem Sz.div {i j : Int} (h : Sz j) (h0 : j ≠ 0) : CDivX i j := ⟨h0, Nat.lt_trans (log_of h (by decide)) (by decide)⟩
theorem Sz.com {t b : Int} (h : Sz b) (h0 : b ≠ 0) : Sz (com t b) := h.le (com_le h0)
theorem Sz.top {t b : Int} (h : Sz t) (h0 : b ≠ 0) : Sz (lowT t b) := h.le (lowT_le h0)
theorem Sz.bot {t b : Int} (h : Sz b) (h0 : b ≠ 0) : Sz (lowB t b) := h.le (lowB_le h0)
theorem int_len {i : Int} {k : Nat} (hk : 0 < k) (h : i.natAbs < 10 ^ k) : (Str.ofString (toString i)).length ≤ k + 1 := by
  have y : ((i.natAbs : Nat) : Int) < ((10 ^ k : Nat) : Int) := by exact_mod_cast h
  by_cases h0 : 0 ≤ i
  · have e : (i.natAbs : Int) = i := by omega
    rw [e] at y
    have z := PyProof.Rows.toString_length_le h0 hk (by simpa using y)
    omega
  · rw [PyProof.Rows.toString_neg (by omega)]
    have e : (i.natAbs : Int) = 0 - i := by omega
    rw [e] at y
    have z := PyProof.Rows.toString_length_le (v := 0 - i) (by omega) hk (by simpa using y)
    rw [PyProof.Rows.ofString_len] at z ⊢
    rw [String.length_append]
    have : ("-" : String).length = 1 := rfl
    omega
theorem Sz.len {i : Int} (h : Sz i) : (Str.ofString (toString i)).length ≤ 129 := int_len (k := 128) (by decide) (Nat.lt_trans h (by decide +kernel))
theorem lineS {n : Nat} (h : n ≤ 1000) : n ≤ sizeLine := by
  rw [sizeLine_eq]
  omega
theorem emp_app (a : Str) : Str.empty ++ a = a := by
  cases a with
  | mk c =>
    show Str.mk (#[] ++ c) = Str.mk c
    simp
/-- Share.__init__(self, top, bottom) -/
def spInit (C CZ : Addr) : Sp := fun vs H Q E => ∃ (x dx : Addr) (t b : Int), vs = [.ref x, .int t, .int b] ∧ H x = some (.ins C dx []) ∧ Sz t ∧ Sz b ∧
  (b ≠ 0 → ∀ H', (∀ c o, c ≠ x → H c = some o → H' c = some o) → H' x = some (.ins C dx (fS (lowT t b) (lowB t b))) → Q .non H') ∧ (b = 0 → E (.ref CZ) none H)
theorem ok_Share_init (T : Txt P K mg) : FnOk P w K mg base (L2N.CX P w) 2 T.f_Share_init T.d_Share_init ["self", "top", "bottom"] (spInit T.C_Share T.C_ZeroBelow) := by
  refine T.F_Share_init.ok sc_Share_init (fun vs H Q E h => ?_) (fun cdv A outer s H vs Q E hr h => ?_)
  · obtain ⟨x, dx, t, b, rfl, _⟩ := h
    rfl
  · obtain ⟨x, dx, t, b, rfl, hx, st, sb, q, e⟩ := h
    refine ⟨_, (pss_cons (ps_if (pt_cmpR op_eq (pv 2) pe_int (nomark _)) (pss_one (L2N.ps_raise rfl (L2N.takes_of rfl rfl rfl rfl) (pmk0 T.E_ZeroBelow (fun _ => msg_c) rfl hr rfl (by decide)))) pss_nil)
      (pss_cons (ps_set (i := 3) sc_Share_init.nd rfl (.inl rfl) (pe_callBfun cr_gcd (by rfl) T.v_gcd (pa_cons (pv 1) (pa_cons (pv 2) pa_nil))))
      (pss_cons (ps_if (pt_cmpR op_lt (pv 2) pe_int (nomark _)) (pss_one (ps_set (i := 3) sc_Share_init.nd rfl (.inl rfl) (pe_un un_neg (pv 3)))) pss_nil)
      (pss_cons (ps_fld (pv 0) (pe_op op_fdivX (pv 1) (pv 3)) rfl)
      (pss_one (ps_fld (pv 0) (pe_op op_fdivX (pv 2) (pv 3)) rfl)))))), ?_⟩
    refine ⟨_, rfl, rfl, _, rfl, ite2 (fun z => ?_) (fun z => ?_)⟩
    · exact e (by simpa using z)
    · have hb : b ≠ 0 := by simpa using z
      refine ⟨_, rfl, _, rfl, t, b, rfl, ?_⟩
      have fin : ∀ c : Int, c = com t b → (fun σ H' => tSeq (sFld K (tVar 0) (tOp (rI CDivX fun i j => .int (i.fdiv j)) (tVar 1) (tVar 3)) "top") (sFld K (tVar 0) (tOp (rI CDivX fun i j => .int (i.fdiv j)) (tVar 2) (tVar 3)) "bottom") { nx := fun _ H' => Q .non H', rt := Q } σ H') [some (.ref x), some (.int t), some (.int b), some (.int c)] H := fun c hc => by
        subst hc
        refine ⟨_, rfl, _, rfl, _, _, rfl, rfl, (sb.com hb).div (com_ne hb), .ref x, rfl, x, _, dx, _, rfl, hx, T.cl_Share, T.na_Share_top, (by show 0 < 1000; decide), ?_⟩
        refine ⟨_, rfl, _, rfl, _, _, rfl, rfl, (sb.com hb).div (com_ne hb), .ref x, rfl, x, _, dx, _, rfl, upd_same, T.cl_Share, T.na_Share_bottom, (by show 1 < 1000; decide), ?_⟩
        rw [upd_upd]
        refine q hb _ (fun c o n hc => ?_) ?_
        · rw [upd_ne n]
          exact hc
        · rw [upd_same]
          rfl
      refine ⟨_, rfl, _, _, rfl, rfl, _, rfl, ite2 (fun z2 => ?_) (fun z2 => ?_)⟩
      · have z3 : b < 0 := by simpa using z2
        exact ⟨_, rfl, _, rfl, fin _ (by unfold com; rw [if_pos z3])⟩
      · have z3 : ¬ b < 0 := by simpa using z2
        exact fin _ (by unfold com; rw [if_neg z3])
/-! ### the source of drawn numbers -/
/-- what stands at b and is not a stands as before -/
def But (a : Addr) (H H' : Hp) : Prop := ∀ b o, b ≠ a → H b = some o → H' b = some o
theorem But.refl {a : Addr} {H : Hp} : But a H H := fun _ _ _ h => h
theorem But.trans {a : Addr} {H H1 H2 : Hp} (x : But a H H1) (y : But a H1 H2) : But a H H2 := fun b o n h => y b o n (x b o n h)
theorem But.upd {a : Addr} {H H1 : Hp} {o : HO} (x : But a H H1) : But a H (upd H1 a o) := fun b u n h => by
  rw [upd_ne n]
  exact x b u n h
theorem But.new {a p : Addr} {H H1 : Hp} {o u : HO} (x : But a H H1) (ha : H1 a = some u) (hp : H1 p = none) : But a H (L2.upd H1 p o) := fun b v n h => by
  rw [upd_ne (ne_of_none (x b v n h) hp)]
  exact x b v n h
theorem But.of {a : Addr} {H H1 : Hp} (x : Same H H1) : But a H H1 := fun b o _ h => x b o h
/-- the script's list at l beside four ints -/
def five (l : Addr) (i x k m : Int) : List V := [.ref l, .int i, .int x, .int k, .int m]
structure SrcL (H : Hp) (a l : Addr) (ns : List Int) : Prop where
  at_ : ∃ i x k m : Int, 0 ≤ i ∧ H a = some (.lst (five l i x k m))
  li : H l = some (.lst (ns.map V.int))
theorem src_ne {H : Hp} {a l : Addr} {ns : List Int} (S : SrcL H a l ns) : l ≠ a := fun e => by
  obtain ⟨i, x, k, m, _, h⟩ := S.at_
  have h2 := S.li
  rw [e, h] at h2
  have h3 := HO.lst.inj (Option.some.inj h2)
  cases ns with
  | nil => exact absurd h3 (by simp [five])
  | cons y r =>
    have h4 := (List.cons.inj h3).1
    cases h4
/-- a source at a -/
def Src (H : Hp) (a : Addr) : Prop := ∃ (l : Addr) (ns : List Int), SrcL H a l ns
theorem Src.keep {H H' : Hp} {a : Addr} (S : Src H a) (k : Same H H') : Src H' a := by
  obtain ⟨l, ns, ⟨i, x, j, m, h0, h⟩, hl⟩ := S
  exact ⟨l, ns, ⟨i, x, j, m, h0, k _ _ h⟩, k _ _ hl⟩
theorem Src.new {H : Hp} {a p : Addr} {o : HO} (S : Src H a) (hp : H p = none) : Src (upd H p o) a := S.keep fun b u h => by
  rw [upd_ne (ne_of_none h hp)]
  exact h
theorem Src.some {H : Hp} {a : Addr} (S : Src H a) : ∃ o, H a = Option.some o := by
  obtain ⟨l, ns, ⟨i, x, k, m, h0, h⟩, hl⟩ := S
  exact ⟨_, h⟩
/-- _law_take(source, many) -/
def spTake : Sp := fun vs H Q _ => ∃ (a : Addr) (many : Int), vs = [.ref a, .int many] ∧ Src H a ∧ 1 ≤ many ∧ many < 2 ^ 64 ∧ ∀ H' r, 0 ≤ r → r < many → Src H' a → But a H H' → Q (.int r) H'
theorem src_upd {H : Hp} {a l : Addr} {ns : List Int} {i x k m : Int} (hl : H l = some (.lst (ns.map V.int))) (n : l ≠ a) (h0 : 0 ≤ i) : Src (upd H a (.lst (five l i x k m))) a :=
  ⟨l, ns, ⟨i, x, k, m, h0, upd_same⟩, by rw [upd_ne n]; exact hl⟩
theorem fmod_lo (x : Int) {m : Int} (h : 1 ≤ m) : 0 ≤ x.fmod m := Int.fmod_nonneg_of_pos x (by omega)
theorem fmod_hi (x : Int) {m : Int} (h : 1 ≤ m) : x.fmod m < m := Int.fmod_lt_of_pos x (by omega)
/-- the second half of _law_take, from a source that stands -/
theorem ok__law_take (T : Txt P K mg) : FnOk P w K mg base CX0 1 T.f__law_take T.d__law_take ["_law_source_here", "_law_many"] spTake := by
  refine T.F__law_take.ok sc__law_take (fun vs H Q E h => ?_) (fun cdv A outer s H vs Q E hr h => ?_)
  · obtain ⟨a, many, rfl, _⟩ := h
    rfl
  · obtain ⟨a, many, rfl, ⟨l, ns, S⟩, h1, h64, q⟩ := h
    have nla := src_ne S
    obtain ⟨⟨i, x, k, m, hi0, h⟩, hl⟩ := S
    refine ⟨_, (Evl.pss_cut (ps_if (pt_cmpR op_eq (pe_ix ix_list (pv 0) pe_int (fun _ _ => rfl)) pe_int (nomark _)) (pss_cons (ps_if (pt_cmpR op_ge (pe_ix ix_list (pv 0) pe_int (fun _ _ => rfl)) (pe_callB call_len_seq (by rfl) T.n_len PySem.boot_len (pa_cons (pe_ix ix_list (pv 0) pe_int (fun _ _ => rfl)) pa_nil)) (nomark _)) (pss_one (ps_ret pe_int)) pss_nil)
      (pss_cons (ps_set (i := 3) sc__law_take.nd rfl (.inl rfl) (pe_callTy call_int1 (by rfl) T.n_int (by decide +kernel) (pa_cons (pe_ix ix_list (pe_ix ix_list (pv 0) pe_int (fun _ _ => rfl)) (pe_ix ix_list (pv 0) pe_int (fun _ _ => rfl)) (fun _ _ => rfl)) pa_nil)))
      (pss_cons (ps_asg (pe_op op_add (pe_ix ix_list (pv 0) pe_int (fun _ _ => rfl)) pe_int) (pg_sub (pv 0) pe_int set_list))
      (pss_cons (ps_asg (pv 3) (pg_sub (pv 0) pe_int set_list))
      (pss_cons (ps_asg pe_int (pg_sub (pv 0) pe_int set_list))
      (pss_cons (ps_asg pe_int (pg_sub (pv 0) pe_int set_list))
      (pss_one (ps_if (pt_cmpR op_ge (pv 3) (pe_op op_pow pe_int pe_int) (nomark _)) (pss_cons (ps_asg pe_int (pg_sub (pv 0) pe_int set_list))
      (pss_one (ps_asg pe_int (pg_sub (pv 0) pe_int set_list)))) pss_nil)))))))) pss_nil)
      (pss_cons (ps_asg (pe_op op_sub (pe_ix ix_list (pv 0) pe_int (fun _ _ => rfl)) pe_int) (pg_sub (pv 0) pe_int set_list))
      (pss_cons (ps_if (pt_cmpR op_eq (pe_ix ix_list (pv 0) pe_int (fun _ _ => rfl)) pe_int (nomark _)) (pss_cons (ps_set (i := 4) sc__law_take.nd rfl (.inl rfl) (pe_op op_modN (pe_callTy call_int1 (by rfl) T.n_int (by decide +kernel) (pa_cons (pe_ix ix_list (pv 0) pe_int (fun _ _ => rfl)) pa_nil)) (pv 1)))
      (pss_cons (ps_asg (pe_op op_fdivW (pe_ix ix_list (pv 0) pe_int (fun _ _ => rfl)) (pv 1)) (pg_sub (pv 0) pe_int set_list))
      (pss_cons (ps_if (pt_cmpR op_eq (pe_ix ix_list (pv 0) pe_int (fun _ _ => rfl)) pe_int (nomark _)) (pss_one (ps_asg pe_int (pg_sub (pv 0) pe_int set_list))) pss_nil)
      (pss_one (ps_ret (pv 4)))))) pss_nil)
      (pss_cons (ps_set (i := 2) sc__law_take.nd rfl (.inl rfl) (pe_op op_modN (pe_callTy call_int1 (by rfl) T.n_int (by decide +kernel) (pa_cons (pe_op op_add (pe_op op_add (pe_op op_mul (pe_ix ix_list (pv 0) pe_int (fun _ _ => rfl)) pe_int) (pe_op op_mul (pe_ix ix_list (pv 0) pe_int (fun _ _ => rfl)) pe_int)) pe_int) pa_nil)) pe_int))
      (pss_cons (ps_set (i := 2) sc__law_take.nd rfl (.inl rfl) (pe_op op_modN (pe_callTy call_int1 (by rfl) T.n_int (by decide +kernel) (pa_cons (pe_op op_add (pe_op op_add (pe_op op_mul (pv 2) pe_int) (pe_op op_mul (pe_ix ix_list (pv 0) pe_int (fun _ _ => rfl)) pe_int)) pe_int) pa_nil)) pe_int))
      (pss_one (ps_ret (pe_op op_modN (pe_callTy call_int1 (by rfl) T.n_int (by decide +kernel) (pa_cons (pv 2) pa_nil)) (pv 1))))))))), ?_⟩
    refine ⟨fun σ' H' => ∃ (cv : Option V) (i x k m : Int), σ' = [some (.ref a), some (.int many), none, cv, none] ∧ 0 ≤ i ∧ H' a = some (.lst (five l i x k m)) ∧ H' l = some (.lst (ns.map V.int)) ∧ But a H H', ?_, ?_⟩
    · refine ⟨.ref a, rfl, a, _, 3, _, rfl, rfl, SqL.of h, atI_nat (j := 3) rfl, rfl, _, rfl, ite2 (fun e => ?_) (fun e => ?_)⟩
      · refine ⟨.ref a, rfl, a, _, 1, _, rfl, rfl, SqL.of h, atI_nat (j := 1) rfl, .ref a, rfl, a, _, 0, _, rfl, rfl, SqL.of h, atI_nat (j := 0) rfl, l, _, rfl, .inl (SqL.of hl), _, _, rfl, rfl, _, rfl, ite2 (fun e1 => ?_) (fun e1 => ?_)⟩
        · exact q H 0 (by omega) (by omega) ⟨l, ns, ⟨⟨i, x, k, m, hi0, h⟩, hl⟩⟩ But.refl
        · have hin : i.toNat < ns.length := by
            have z : ¬ ((ns.map V.int).length : Int) ≤ i := fun z => e1 (decide_eq_true z)
            rw [List.length_map] at z
            omega
          have hg : (ns.map V.int)[i.toNat]? = some (.int ns[i.toNat]) := by
            rw [List.getElem?_map, List.getElem?_eq_getElem hin]
            rfl
          refine ⟨.ref a, rfl, a, _, 0, _, rfl, rfl, SqL.of h, atI_nat (j := 0) rfl, .ref a, rfl, a, _, 1, _, rfl, rfl, SqL.of h, atI_nat (j := 1) rfl, l, _, i, _, rfl, rfl, SqL.of hl, at_of (by omega) hg, .inl ⟨_, rfl, ?_⟩⟩
          refine ⟨.ref a, rfl, a, _, 1, _, rfl, rfl, SqL.of h, atI_nat (j := 1) rfl, _, _, rfl, rfl, .ref a, rfl, a, _, 1, 1, rfl, rfl, h, rfl, ?_⟩
          refine ⟨_, rfl, .ref a, rfl, a, _, 2, 2, rfl, rfl, upd_same, rfl, ?_⟩
          refine ⟨.ref a, rfl, a, _, 3, 3, rfl, rfl, upd_same, rfl, ?_⟩
          refine ⟨.ref a, rfl, a, _, 4, 4, rfl, rfl, upd_same, rfl, ?_⟩
          refine ⟨_, rfl, _, _, rfl, rfl, ⟨by decide, by decide, by decide⟩, _, _, rfl, rfl, _, rfl, ite2 (fun e2 => ?_) (fun e2 => ?_)⟩
          · refine ⟨.ref a, rfl, a, _, 3, 3, rfl, rfl, upd_same, rfl, .ref a, rfl, a, _, 4, 4, rfl, rfl, upd_same, rfl, ?_⟩
            rw [upd_upd, upd_upd, upd_upd, upd_upd, upd_upd]
            exact ⟨_, i + 1, ns[i.toNat], 60, 1, rfl, by omega, upd_same, by rw [upd_ne nla]; exact hl, But.refl.upd⟩
          · rw [upd_upd, upd_upd, upd_upd]
            exact ⟨_, i + 1, ns[i.toNat], 4, 0, rfl, by omega, upd_same, by rw [upd_ne nla]; exact hl, But.refl.upd⟩
      · exact ⟨_, i, x, k, m, rfl, hi0, h, hl, But.refl⟩
    · rintro σ' H0 ⟨cv, i, x, k, m, rfl, hi0, h, hl, bt⟩
      have hl1 : ∀ o, (upd H0 a o) l = some (.lst (ns.map V.int)) := fun o => by
        rw [upd_ne nla]
        exact hl
      refine ⟨.ref a, rfl, a, _, 3, _, rfl, rfl, SqL.of h, atI_nat (j := 3) rfl, _, _, rfl, rfl, .ref a, rfl, a, _, 3, 3, rfl, rfl, h, rfl, ?_⟩
      have h2 : (upd H0 a (.lst ((five l i x k m).set 3 (.int (k - 1))))) a = some (.lst (five l i x (k - 1) m)) := upd_same
      refine ⟨.ref a, rfl, a, _, 4, _, rfl, rfl, SqL.of h2, atI_nat (j := 4) rfl, rfl, _, rfl, ite2 (fun e => ?_) (fun e => ?_)⟩
      · refine ⟨.ref a, rfl, a, _, 2, _, rfl, rfl, SqL.of h2, atI_nat (j := 2) rfl, .inl ⟨_, rfl, _, rfl, _, _, rfl, rfl, by omega, ?_⟩⟩
        refine ⟨.ref a, rfl, a, _, 2, _, rfl, rfl, SqL.of h2, atI_nat (j := 2) rfl, _, rfl, _, _, rfl, rfl, wide_div (b := 64) (by omega) (by omega) (by decide) (by decide), .ref a, rfl, a, _, 2, 2, rfl, rfl, h2, rfl, ?_⟩
        have h3 : ∀ o, (upd (upd H0 a o) a (.lst ((five l i x (k - 1) m).set 2 (.int (x / many))))) a = some (.lst (five l i (x / many) (k - 1) m)) := fun o => upd_same
        refine ⟨.ref a, rfl, a, _, 2, _, rfl, rfl, SqL.of (h3 _), atI_nat (j := 2) rfl, rfl, _, rfl, ite2 (fun e3 => ?_) (fun e3 => ?_)⟩
        · refine ⟨.ref a, rfl, a, _, 3, 3, rfl, rfl, upd_same, rfl, ?_⟩
          rw [upd_upd, upd_upd]
          exact ⟨_, rfl, q _ _ (fmod_lo x h1) (fmod_hi x h1) ⟨l, ns, ⟨⟨i, x / many, 0, m, hi0, upd_same⟩, hl1 _⟩⟩ bt.upd⟩
        · rw [upd_upd]
          exact ⟨_, rfl, q _ _ (fmod_lo x h1) (fmod_hi x h1) ⟨l, ns, ⟨⟨i, x / many, k - 1, m, hi0, upd_same⟩, hl1 _⟩⟩ bt.upd⟩
      · refine ⟨.ref a, rfl, a, _, 2, _, rfl, rfl, SqL.of h2, atI_nat (j := 2) rfl, _, _, rfl, rfl, .inr ⟨by decide, by decide⟩, .ref a, rfl, a, _, 3, _, rfl, rfl, SqL.of h2, atI_nat (j := 3) rfl, _, _, rfl, rfl, .inr ⟨by decide, by decide⟩, _, _, rfl, rfl, _, _, rfl, rfl, .inl ⟨_, rfl, _, _, rfl, rfl, (show (2147483647 : Int) ≠ 0 by decide), ?_⟩⟩
        refine ⟨_, rfl, _, _, rfl, rfl, .inr ⟨by decide, by decide⟩, .ref a, rfl, a, _, 3, _, rfl, rfl, SqL.of h2, atI_nat (j := 3) rfl, _, _, rfl, rfl, .inr ⟨by decide, by decide⟩, _, _, rfl, rfl, _, _, rfl, rfl, .inl ⟨_, rfl, _, _, rfl, rfl, (show (2147483629 : Int) ≠ 0 by decide), ?_⟩⟩
        refine ⟨_, rfl, .inl ⟨_, rfl, _, rfl, _, _, rfl, rfl, by omega, ?_⟩⟩
        exact q _ _ (fmod_lo _ h1) (fmod_hi _ h1) ⟨l, ns, ⟨⟨i, x, k - 1, m, hi0, h2⟩, hl1 _⟩⟩ bt.upd
/-- _law_source(script) -/
def spSource (K : PySem.W.Frag) : Sp := fun vs H Q _ => ∃ (a : Addr) (ns : List Int), vs = [.ref a] ∧ SqL K H a (ns.map V.int) ∧ ∀ H' p, Src H' p → H p = none → Same H H' → Q (.ref p) H'
theorem ok__law_source (T : Txt P K mg) : FnOk P w K mg base CX0 1 T.f__law_source T.d__law_source ["_law_script"] (spSource K) := by
  refine T.F__law_source.ok sc__law_source (fun vs H Q E h => ?_) (fun cdv A outer s H vs Q E hr h => ?_)
  · obtain ⟨a, ns, rfl, _⟩ := h
    rfl
  · obtain ⟨a, ns, rfl, S, q⟩ := h
    refine ⟨_, (pss_one (ps_ret (pe_lst (pa_cons (pe_callTy call_list_of (by rfl) T.n_list (by decide +kernel) (pa_cons (pv 0) pa_nil)) (pa_cons pe_int (pa_cons pe_int (pa_cons pe_int (pa_cons pe_int pa_nil)))))))), ?_⟩
    refine ⟨_, rfl, a, _, rfl, .inl S, fun l nl => ⟨(by show 5 ≤ sizeLine; decide), fun p np => ?_⟩⟩
    have lp : l ≠ p := fun e => by
      rw [e, upd_same] at np
      cases np
    have np0 : H p = none := by
      rw [upd_ne lp.symm] at np
      exact np
    refine q _ p ⟨l, ns, ⟨⟨0, 0, 0, 0, by decide, upd_same⟩, ?_⟩⟩ np0 fun b o e => ?_
    · rw [upd_ne lp, upd_same]
    · rw [upd_ne (ne_of_none e np0), upd_ne (ne_of_none e nl)]
      exact e
/-! ### answers of pure defs -/
def isBl : V → Bool
  | .bl _ => true
  | _ => false
def isIn : V → Bool
  | .int _ => true
  | _ => false
def isSt : V → Bool
  | .str _ => true
  | _ => false
def flat4 : V → Bool
  | .non => true
  | .bl _ => true
  | .int _ => true
  | .str _ => true
  | _ => false
theorem kit_flat {K : PySem.W.Frag} {x : V} (h : flat4 x = true) : ∃ t : String, (∀ H, TyX K H x (.type t)) ∧ kitB t "bool" = some (isBl x) ∧ kitB t "int" = some (isBl x || isIn x) ∧ kitB t "str" = some (isSt x) ∧ kitB t "list" = some false ∧ kitB t "tuple" = some false := by
  cases x with
  | non => exact ⟨"NoneType", fun _ => .base .non, by decide +kernel, by decide +kernel, by decide +kernel, by decide +kernel, by decide +kernel⟩
  | bl b => exact ⟨"bool", fun _ => .base (.bl b), (show kitB "bool" "bool" = some true by decide +kernel), (show kitB "bool" "int" = some true by decide +kernel), (show kitB "bool" "str" = some false by decide +kernel), (show kitB "bool" "list" = some false by decide +kernel), (show kitB "bool" "tuple" = some false by decide +kernel)⟩
  | int i => exact ⟨"int", fun _ => .base (.int i), (show kitB "int" "bool" = some false by decide +kernel), (show kitB "int" "int" = some true by decide +kernel), (show kitB "int" "str" = some false by decide +kernel), (show kitB "int" "list" = some false by decide +kernel), (show kitB "int" "tuple" = some false by decide +kernel)⟩
  | str z => exact ⟨"str", fun _ => .base (.str z), (show kitB "str" "bool" = some false by decide +kernel), (show kitB "str" "int" = some false by decide +kernel), (show kitB "str" "str" = some true by decide +kernel), (show kitB "str" "list" = some false by decide +kernel), (show kitB "str" "tuple" = some false by decide +kernel)⟩
  | byt b => cases h
  | flt b => cases h
  | ref a => cases h
  | ty n => cases h
open Evl in
theorem ev_isi {σ : L2.St} {H : Hp} {ta : TE} {x : V} {t c : String} {b : Bool} (h : Ev ta σ H x) (ht : ∀ H, TyX K H x (.type t)) (hk : kitB t c = some b) : Ev (tCB (rIsi K) (tCons ta (tCons (tC (.ty c)) tNil))) σ H (.bl b) :=
  ev_cb (ea_cons h (ea_cons ev_c ea_nil)) fun H1 _ Q q => ⟨x, .ty c, .type t, .type c, b, rfl, .ty c, ht H1, kit_ty hk, q H1 (Ex.refl H1)⟩
/-- _law_same(one, other) of two flat things -/
def spSame : Sp := fun vs H Q _ => ∃ x y, vs = [x, y] ∧ flat4 x = true ∧ flat4 y = true ∧ ∀ H', Evl.Ex H H' → Q (.bl (decide (x = y))) H'
theorem ne_bl {x y : V} (h : isBl x = true) (h2 : isBl y = false) : x ≠ y := fun e => by
  rw [e, h2] at h
  cases h
theorem scal_flat {x y : V} (hx : flat4 x = true) (hy : flat4 y = true) (h : (isBl x = true ∧ isBl y = true) ∨ (isIn x = true ∧ isIn y = true) ∨ (isSt x = true ∧ isSt y = true)) : scal x y = true := by
  cases x <;> cases y <;> first | rfl | (simp [isBl, isIn, isSt] at h) | cases hx | cases hy
theorem non_of {x : V} (h : flat4 x = true) (h1 : isBl x = false) (h2 : isIn x = false) (h3 : isSt x = false) : x = .non := by
  cases x with
  | non => rfl
  | bl b => cases h1
  | int i => cases h2
  | str z => cases h3
  | byt b => cases h
  | flt b => cases h
  | ref a => cases h
  | ty n => cases h
open Evl in
theorem ok__law_same (T : Txt P K mg) : FnOk P w K mg base CX0 1 T.f__law_same T.d__law_same ["_law_one", "_law_other"] spSame := by
  refine T.F__law_same.ok sc__law_same (fun vs H Q E h => ?_) (fun cdv A outer s H vs Q E hr h => ?_)
  · obtain ⟨x, y, rfl, _⟩ := h
    rfl
  · obtain ⟨x, y, rfl, hx, hy, q⟩ := h
    obtain ⟨tx, kx, bx, ix, sx, lx, ux⟩ := kit_flat (K := K) hx
    obtain ⟨ty, ky, by_, iy, sy, ly, uy⟩ := kit_flat (K := K) hy
    have vx : ∀ (σ : L2.St) (H : Hp), σ[0]? = some (some x) → Ev (tVar 0) σ H x := fun σ H e => ev_var e
    have vy : ∀ (σ : L2.St) (H : Hp), σ[1]? = some (some y) → Ev (tVar 1) σ H y := fun σ H e => ev_var e
    refine ⟨_, (pss_cons (ps_if (PW.pt (pw_or (pt_val (pe_callB call_isi (by rfl) T.n_isinstance (by decide +kernel) (pa_cons (pv 0) (pa_cons (pe_bltn (v := .ty "bool") (u := .type "bool") (by rfl) T.n_bool (by decide +kernel) rfl) pa_nil)))) (pw_or1 (pt_val (pe_callB call_isi (by rfl) T.n_isinstance (by decide +kernel) (pa_cons (pv 1) (pa_cons (pe_bltn (v := .ty "bool") (u := .type "bool") (by rfl) T.n_bool (by decide +kernel) rfl) pa_nil))))))) (pss_one (ps_ret (pe_and (pe_callB call_isi (by rfl) T.n_isinstance (by decide +kernel) (pa_cons (pv 0) (pa_cons (pe_bltn (v := .ty "bool") (u := .type "bool") (by rfl) T.n_bool (by decide +kernel) rfl) pa_nil))) (pe_and (pe_callB call_isi (by rfl) T.n_isinstance (by decide +kernel) (pa_cons (pv 1) (pa_cons (pe_bltn (v := .ty "bool") (u := .type "bool") (by rfl) T.n_bool (by decide +kernel) rfl) pa_nil))) (pe_one (pe_cmpR op_eq (pv 0) (pv 1) (nomark _))))))) pss_nil)
      (pss_cons (ps_if (PW.pt (pw_or (pt_val (pe_callB call_isi (by rfl) T.n_isinstance (by decide +kernel) (pa_cons (pv 0) (pa_cons (pe_bltn (v := .ty "int") (u := .type "int") (by rfl) T.n_int (by decide +kernel) rfl) pa_nil)))) (pw_or1 (pt_val (pe_callB call_isi (by rfl) T.n_isinstance (by decide +kernel) (pa_cons (pv 1) (pa_cons (pe_bltn (v := .ty "int") (u := .type "int") (by rfl) T.n_int (by decide +kernel) rfl) pa_nil))))))) (pss_one (ps_ret (pe_and (pe_callB call_isi (by rfl) T.n_isinstance (by decide +kernel) (pa_cons (pv 0) (pa_cons (pe_bltn (v := .ty "int") (u := .type "int") (by rfl) T.n_int (by decide +kernel) rfl) pa_nil))) (pe_and (pe_callB call_isi (by rfl) T.n_isinstance (by decide +kernel) (pa_cons (pv 1) (pa_cons (pe_bltn (v := .ty "int") (u := .type "int") (by rfl) T.n_int (by decide +kernel) rfl) pa_nil))) (pe_one (pe_cmpR op_eq (pv 0) (pv 1) (nomark _))))))) pss_nil)
      (pss_cons (ps_if (PW.pt (pw_or (pt_val (pe_callB call_isi (by rfl) T.n_isinstance (by decide +kernel) (pa_cons (pv 0) (pa_cons (pe_bltn (v := .ty "str") (u := .type "str") (by rfl) T.n_str (by decide +kernel) rfl) pa_nil)))) (pw_or1 (pt_val (pe_callB call_isi (by rfl) T.n_isinstance (by decide +kernel) (pa_cons (pv 1) (pa_cons (pe_bltn (v := .ty "str") (u := .type "str") (by rfl) T.n_str (by decide +kernel) rfl) pa_nil))))))) (pss_one (ps_ret (pe_and (pe_callB call_isi (by rfl) T.n_isinstance (by decide +kernel) (pa_cons (pv 0) (pa_cons (pe_bltn (v := .ty "str") (u := .type "str") (by rfl) T.n_str (by decide +kernel) rfl) pa_nil))) (pe_and (pe_callB call_isi (by rfl) T.n_isinstance (by decide +kernel) (pa_cons (pv 1) (pa_cons (pe_bltn (v := .ty "str") (u := .type "str") (by rfl) T.n_str (by decide +kernel) rfl) pa_nil))) (pe_one (pe_cmpR op_eq (pv 0) (pv 1) (nomark _))))))) pss_nil)
      (pss_cons (ps_set (i := 2) sc__law_same.nd rfl (.inl rfl) (pe_and (pe_callB call_isi (by rfl) T.n_isinstance (by decide +kernel) (pa_cons (pv 0) (pa_cons (pe_bltn (v := .ty "list") (u := .type "list") (by rfl) T.n_list (by decide +kernel) rfl) pa_nil))) (pe_one (pe_callB call_isi (by rfl) T.n_isinstance (by decide +kernel) (pa_cons (pv 1) (pa_cons (pe_bltn (v := .ty "list") (u := .type "list") (by rfl) T.n_list (by decide +kernel) rfl) pa_nil))))))
      (pss_cons (ps_if (PW.pt (pw_and (pt_not (pt_val (pv 2))) (pw_and1 (pt_not (PW.pt (pw_and (pt_val (pe_callB call_isi (by rfl) T.n_isinstance (by decide +kernel) (pa_cons (pv 0) (pa_cons (pe_bltn (v := .ty "tuple") (u := .type "tuple") (by rfl) T.n_tuple (by decide +kernel) rfl) pa_nil)))) (pw_and1 (pt_val (pe_callB call_isi (by rfl) T.n_isinstance (by decide +kernel) (pa_cons (pv 1) (pa_cons (pe_bltn (v := .ty "tuple") (u := .type "tuple") (by rfl) T.n_tuple (by decide +kernel) rfl) pa_nil))))))))))) (pss_one (ps_ret (pe_and (pe_cmpR op_isN (pv 0) pe_non (nomark _)) (pe_one (pe_cmpR op_isN (pv 1) pe_non (nomark _)))))) pss_nil)
      (pss_one ps_never)))))), ?_⟩
    have cmp : ∀ (σ : L2.St) (H1 : Hp), σ[0]? = some (some x) → σ[1]? = some (some y) → scal x y = true → Ev (tOp rEq (tVar 0) (tVar 1)) σ H1 (.bl (decide (x = y))) := fun σ H1 e0 e1 hs => ev_op (ev_var e0) (ev_var e1) (rv_eq hs)
    refine q_when (et_or (et_B (ev_isi (vx _ _ rfl) kx bx)) (fun _ => et_B (ev_isi (vy _ _ rfl) ky by_))) (fun hb H1 e1 => ?_) (fun hb H1 e1 => ?_)
    · refine s_ret (v := .bl (decide (x = y))) (ev_is (ev_andV (ev_isi (vx _ _ rfl) kx bx) (fun h1 => ev_andV (b := decide (x = y)) (ev_isi (vy _ _ rfl) ky by_) (fun h2 => cmp _ _ rfl rfl (scal_flat hx hy (.inl ⟨h1, h2⟩))))) ?_) (fun H2 e2 => q H2 (e1.trans e2))
      cases h1 : isBl x with
      | true =>
        cases h2 : isBl y with
        | true => rfl
        | false => rw [decide_eq_false (ne_bl h1 h2)]; rfl
      | false =>
        rw [h1] at hb
        have h2 : isBl y = true := hb
        rw [decide_eq_false (ne_bl h2 h1).symm]
        rfl
    · have nb : isBl x = false ∧ isBl y = false := by simpa using hb
      rw [nb.1] at ix
      rw [nb.2] at iy
      refine q_when (et_or (et_B (ev_isi (vx _ _ rfl) kx ix)) (fun _ => et_B (ev_isi (vy _ _ rfl) ky iy))) (fun hi H2 e2 => ?_) (fun hi H2 e2 => ?_)
      · refine s_ret (v := .bl (decide (x = y))) (ev_is (ev_andV (ev_isi (vx _ _ rfl) kx ix) (fun h1 => ev_andV (b := decide (x = y)) (ev_isi (vy _ _ rfl) ky iy) (fun h2 => cmp _ _ rfl rfl (scal_flat hx hy (.inr (.inl ⟨h1, h2⟩)))))) ?_) (fun H3 e3 => q H3 ((e1.trans e2).trans e3))
        cases x <;> cases y <;> simp_all [isIn, isBl]
      · have ni : isIn x = false ∧ isIn y = false := by simpa using hi
        refine q_when (et_or (et_B (ev_isi (vx _ _ rfl) kx sx)) (fun _ => et_B (ev_isi (vy _ _ rfl) ky sy))) (fun hs H3 e3 => ?_) (fun hs H3 e3 => ?_)
        · refine s_ret (v := .bl (decide (x = y))) (ev_is (ev_andV (ev_isi (vx _ _ rfl) kx sx) (fun h1 => ev_andV (b := decide (x = y)) (ev_isi (vy _ _ rfl) ky sy) (fun h2 => cmp _ _ rfl rfl (scal_flat hx hy (.inr (.inr ⟨h1, h2⟩)))))) ?_) (fun H4 e4 => q H4 (((e1.trans e2).trans e3).trans e4))
          cases x <;> cases y <;> simp_all [isSt, isBl]
        · have ns : isSt x = false ∧ isSt y = false := by simpa using hs
          have xn : x = .non := non_of hx nb.1 ni.1 ns.1
          have yn : y = .non := non_of hy nb.2 ni.2 ns.2
          refine q_asg (v := .bl false) (ev_is (ev_andV (b := false) (ev_isi (vx _ _ rfl) kx lx) (fun _ => ev_isi (vy _ _ rfl) ky ly)) rfl) (fun H4 e4 => ?_)
          refine q_when (b := true) (et_is (et_and (et_not (et_B (ev_var rfl))) (fun _ => et_not (et_and (b := false) (et_B (ev_isi (vx _ _ rfl) kx ux)) (fun _ => et_B (ev_isi (vy _ _ rfl) ky uy))))) rfl) (fun _ H5 e5 => ?_) (fun hf => by cases hf)
          refine s_ret (v := .bl true) (ev_is (ev_andV (a := true) (b := true) (ev_op (vx _ _ rfl) ev_c (fun H6 _ Q' q' => ⟨rfl, ?_⟩)) (fun _ => ev_op (vy _ _ rfl) ev_c (fun H6 _ Q' q' => ⟨rfl, ?_⟩))) rfl) (fun H6 e6 => ?_)
          · rw [xn]
            exact q' H6 (Ex.refl H6)
          · rw [yn]
            exact q' H6 (Ex.refl H6)
          · have z := q H6 (((((e1.trans e2).trans e3).trans e4).trans e5).trans e6)
            rw [xn, yn] at z
            exact z
open Evl in
theorem okH__law_same (T : Txt P K mg) : L2H.FnH P w K mg base CX0 1 T.f__law_same T.d__law_same ["_law_one", "_law_other"] spSame := by
  refine T.F__law_same.okH sc__law_same (fun vs H Q E h => ?_) (fun cdv A outer s H vs Q E p hot hr h => ?_)
  · obtain ⟨x, y, rfl, _⟩ := h
    rfl
  · obtain ⟨x, y, rfl, hx, hy, q⟩ := h
    obtain ⟨tx, kx, bx, ix, sx, lx, ux⟩ := kit_flat (K := K) hx
    obtain ⟨ty, ky, by_, iy, sy, ly, uy⟩ := kit_flat (K := K) hy
    have vx : ∀ (σ : L2.St) (H : Hp), σ[0]? = some (some x) → Ev (tVar 0) σ H x := fun σ H e => ev_var e
    have vy : ∀ (σ : L2.St) (H : Hp), σ[1]? = some (some y) → Ev (tVar 1) σ H y := fun σ H e => ev_var e
    refine ⟨_, (pss_cons (ps_if (PW.pt (pw_or (pt_val (pe_callB call_isi (by rfl) T.n_isinstance (by decide +kernel) (pa_cons (pv 0) (pa_cons (pe_bltn (v := .ty "bool") (u := .type "bool") (by rfl) T.n_bool (by decide +kernel) rfl) pa_nil)))) (pw_or1 (pt_val (pe_callB call_isi (by rfl) T.n_isinstance (by decide +kernel) (pa_cons (pv 1) (pa_cons (pe_bltn (v := .ty "bool") (u := .type "bool") (by rfl) T.n_bool (by decide +kernel) rfl) pa_nil))))))) (pss_one (ps_ret (pe_and (pe_callB call_isi (by rfl) T.n_isinstance (by decide +kernel) (pa_cons (pv 0) (pa_cons (pe_bltn (v := .ty "bool") (u := .type "bool") (by rfl) T.n_bool (by decide +kernel) rfl) pa_nil))) (pe_and (pe_callB call_isi (by rfl) T.n_isinstance (by decide +kernel) (pa_cons (pv 1) (pa_cons (pe_bltn (v := .ty "bool") (u := .type "bool") (by rfl) T.n_bool (by decide +kernel) rfl) pa_nil))) (pe_one (pe_cmpR op_eq (pv 0) (pv 1) (nomark _))))))) pss_nil)
      (pss_cons (ps_if (PW.pt (pw_or (pt_val (pe_callB call_isi (by rfl) T.n_isinstance (by decide +kernel) (pa_cons (pv 0) (pa_cons (pe_bltn (v := .ty "int") (u := .type "int") (by rfl) T.n_int (by decide +kernel) rfl) pa_nil)))) (pw_or1 (pt_val (pe_callB call_isi (by rfl) T.n_isinstance (by decide +kernel) (pa_cons (pv 1) (pa_cons (pe_bltn (v := .ty "int") (u := .type "int") (by rfl) T.n_int (by decide +kernel) rfl) pa_nil))))))) (pss_one (ps_ret (pe_and (pe_callB call_isi (by rfl) T.n_isinstance (by decide +kernel) (pa_cons (pv 0) (pa_cons (pe_bltn (v := .ty "int") (u := .type "int") (by rfl) T.n_int (by decide +kernel) rfl) pa_nil))) (pe_and (pe_callB call_isi (by rfl) T.n_isinstance (by decide +kernel) (pa_cons (pv 1) (pa_cons (pe_bltn (v := .ty "int") (u := .type "int") (by rfl) T.n_int (by decide +kernel) rfl) pa_nil))) (pe_one (pe_cmpR op_eq (pv 0) (pv 1) (nomark _))))))) pss_nil)
      (pss_cons (ps_if (PW.pt (pw_or (pt_val (pe_callB call_isi (by rfl) T.n_isinstance (by decide +kernel) (pa_cons (pv 0) (pa_cons (pe_bltn (v := .ty "str") (u := .type "str") (by rfl) T.n_str (by decide +kernel) rfl) pa_nil)))) (pw_or1 (pt_val (pe_callB call_isi (by rfl) T.n_isinstance (by decide +kernel) (pa_cons (pv 1) (pa_cons (pe_bltn (v := .ty "str") (u := .type "str") (by rfl) T.n_str (by decide +kernel) rfl) pa_nil))))))) (pss_one (ps_ret (pe_and (pe_callB call_isi (by rfl) T.n_isinstance (by decide +kernel) (pa_cons (pv 0) (pa_cons (pe_bltn (v := .ty "str") (u := .type "str") (by rfl) T.n_str (by decide +kernel) rfl) pa_nil))) (pe_and (pe_callB call_isi (by rfl) T.n_isinstance (by decide +kernel) (pa_cons (pv 1) (pa_cons (pe_bltn (v := .ty "str") (u := .type "str") (by rfl) T.n_str (by decide +kernel) rfl) pa_nil))) (pe_one (pe_cmpR op_eq (pv 0) (pv 1) (nomark _))))))) pss_nil)
      (pss_cons (ps_set (i := 2) sc__law_same.nd rfl (.inl rfl) (pe_and (pe_callB call_isi (by rfl) T.n_isinstance (by decide +kernel) (pa_cons (pv 0) (pa_cons (pe_bltn (v := .ty "list") (u := .type "list") (by rfl) T.n_list (by decide +kernel) rfl) pa_nil))) (pe_one (pe_callB call_isi (by rfl) T.n_isinstance (by decide +kernel) (pa_cons (pv 1) (pa_cons (pe_bltn (v := .ty "list") (u := .type "list") (by rfl) T.n_list (by decide +kernel) rfl) pa_nil))))))
      (pss_cons (ps_if (PW.pt (pw_and (pt_not (pt_val (pv 2))) (pw_and1 (pt_not (PW.pt (pw_and (pt_val (pe_callB call_isi (by rfl) T.n_isinstance (by decide +kernel) (pa_cons (pv 0) (pa_cons (pe_bltn (v := .ty "tuple") (u := .type "tuple") (by rfl) T.n_tuple (by decide +kernel) rfl) pa_nil)))) (pw_and1 (pt_val (pe_callB call_isi (by rfl) T.n_isinstance (by decide +kernel) (pa_cons (pv 1) (pa_cons (pe_bltn (v := .ty "tuple") (u := .type "tuple") (by rfl) T.n_tuple (by decide +kernel) rfl) pa_nil))))))))))) (pss_one (ps_ret (pe_and (pe_cmpR op_isN (pv 0) pe_non (nomark _)) (pe_one (pe_cmpR op_isN (pv 1) pe_non (nomark _)))))) pss_nil)
      (pss_one ps_never)))))), ?_⟩
    have cmp : ∀ (σ : L2.St) (H1 : Hp), σ[0]? = some (some x) → σ[1]? = some (some y) → scal x y = true → Ev (tOp rEq (tVar 0) (tVar 1)) σ H1 (.bl (decide (x = y))) := fun σ H1 e0 e1 hs => ev_op (ev_var e0) (ev_var e1) (rv_eq hs)
    refine q_when (et_or (et_B (ev_isi (vx _ _ rfl) kx bx)) (fun _ => et_B (ev_isi (vy _ _ rfl) ky by_))) (fun hb H1 e1 => ?_) (fun hb H1 e1 => ?_)
    · refine s_ret (v := .bl (decide (x = y))) (ev_is (ev_andV (ev_isi (vx _ _ rfl) kx bx) (fun h1 => ev_andV (b := decide (x = y)) (ev_isi (vy _ _ rfl) ky by_) (fun h2 => cmp _ _ rfl rfl (scal_flat hx hy (.inl ⟨h1, h2⟩))))) ?_) (fun H2 e2 => q H2 (e1.trans e2))
      cases h1 : isBl x with
      | true =>
        cases h2 : isBl y with
        | true => rfl
        | false => rw [decide_eq_false (ne_bl h1 h2)]; rfl
      | false =>
        rw [h1] at hb
        have h2 : isBl y = true := hb
        rw [decide_eq_false (ne_bl h2 h1).symm]
        rfl
    · have nb : isBl x = false ∧ isBl y = false := by simpa using hb
      rw [nb.1] at ix
      rw [nb.2] at iy
      refine q_when (et_or (et_B (ev_isi (vx _ _ rfl) kx ix)) (fun _ => et_B (ev_isi (vy _ _ rfl) ky iy))) (fun hi H2 e2 => ?_) (fun hi H2 e2 => ?_)
      · refine s_ret (v := .bl (decide (x = y))) (ev_is (ev_andV (ev_isi (vx _ _ rfl) kx ix) (fun h1 => ev_andV (b := decide (x = y)) (ev_isi (vy _ _ rfl) ky iy) (fun h2 => cmp _ _ rfl rfl (scal_flat hx hy (.inr (.inl ⟨h1, h2⟩)))))) ?_) (fun H3 e3 => q H3 ((e1.trans e2).trans e3))
        cases x <;> cases y <;> simp_all [isIn, isBl]
      · have ni : isIn x = false ∧ isIn y = false := by simpa using hi
        refine q_when (et_or (et_B (ev_isi (vx _ _ rfl) kx sx)) (fun _ => et_B (ev_isi (vy _ _ rfl) ky sy))) (fun hs H3 e3 => ?_) (fun hs H3 e3 => ?_)
        · refine s_ret (v := .bl (decide (x = y))) (ev_is (ev_andV (ev_isi (vx _ _ rfl) kx sx) (fun h1 => ev_andV (b := decide (x = y)) (ev_isi (vy _ _ rfl) ky sy) (fun h2 => cmp _ _ rfl rfl (scal_flat hx hy (.inr (.inr ⟨h1, h2⟩)))))) ?_) (fun H4 e4 => q H4 (((e1.trans e2).trans e3).trans e4))
          cases x <;> cases y <;> simp_all [isSt, isBl]
        · have ns : isSt x = false ∧ isSt y = false := by simpa using hs
          have xn : x = .non := non_of hx nb.1 ni.1 ns.1
          have yn : y = .non := non_of hy nb.2 ni.2 ns.2
          refine q_asg (v := .bl false) (ev_is (ev_andV (b := false) (ev_isi (vx _ _ rfl) kx lx) (fun _ => ev_isi (vy _ _ rfl) ky ly)) rfl) (fun H4 e4 => ?_)
          refine q_when (b := true) (et_is (et_and (et_not (et_B (ev_var rfl))) (fun _ => et_not (et_and (b := false) (et_B (ev_isi (vx _ _ rfl) kx ux)) (fun _ => et_B (ev_isi (vy _ _ rfl) ky uy))))) rfl) (fun _ H5 e5 => ?_) (fun hf => by cases hf)
          refine s_ret (v := .bl true) (ev_is (ev_andV (a := true) (b := true) (ev_op (vx _ _ rfl) ev_c (fun H6 _ Q' q' => ⟨rfl, ?_⟩)) (fun _ => ev_op (vy _ _ rfl) ev_c (fun H6 _ Q' q' => ⟨rfl, ?_⟩))) rfl) (fun H6 e6 => ?_)
          · rw [xn]
            exact q' H6 (Ex.refl H6)
          · rw [yn]
            exact q' H6 (Ex.refl H6)
          · have z := q H6 (((((e1.trans e2).trans e3).trans e4).trans e5).trans e6)
            rw [xn, yn] at z
            exact z
open Evl in
theorem ev_same {σ : L2.St} {H : Hp} {ta tb : TE} {x y : V} {E : XK} (ha : Ev ta σ H x) (hb : Ev tb σ H y) (hx : flat4 x = true) (hy : flat4 y = true) : Ev (tCall spSame [] E (tCons ta (tCons tb tNil))) σ H (.bl (decide (x = y))) :=
  ev_call (ea_cons ha (ea_cons hb ea_nil)) fun H1 _ Q q E => ⟨x, y, rfl, hx, hy, q⟩
open Evl in
theorem ev_sameT {σ : L2.St} {H : Hp} {ta tb : TE} {x y : V} {E : XK} (ha : Ev ta σ H x) (hb : Ev tb σ H y) (hx : flat4 x = true) (hy : flat4 y = true) (e : x = y) : Ev (tCall spSame [] E (tCons ta (tCons tb tNil))) σ H (.bl true) :=
  ev_is (ev_same ha hb hx hy) (by rw [decide_eq_true e])
open Evl in
theorem ev_all {σ : L2.St} {H : Hp} {tl : TE} {bs : List Bool} (h : EvL tl σ H (bs.map V.bl)) : Ev (tCB (rAll K) (tCons tl tNil)) σ H (.bl (bs.all id)) := fun H1 e Q q =>
  h H1 e _ fun p H2 _ e2 hp => ⟨p, bs, rfl, sq_of hp, q H2 e2⟩
/-- the heap behind a new object whose __init__ has stored to it alone -/
theorem mk_ex {H H' : Hp} {x dx : Addr} {o1 o2 : HO} (hx : H x = none) (hd : H dx = none) (k : ∀ c o, c ≠ x → (upd (upd H dx o1) x o2) c = some o → H' c = some o) : Evl.Ex H H' := fun c o hc => by
  have n1 := ne_of_none hc hx
  have n2 := ne_of_none hc hd
  refine k c o n1 ?_
  rw [upd_ne n1, upd_ne n2]
  exact hc
/-! ### shares as values -/
def S40 (i : Int) : Prop := i.natAbs ≤ 10 ^ 40
theorem S40.neg {i : Int} (h : S40 i) : S40 (-i) := by
  unfold S40
  rw [Int.natAbs_neg]
  exact h
theorem S40.le {i j : Int} (h : S40 j) (l : i.natAbs ≤ j.natAbs) : S40 i := Nat.le_trans l h
theorem S40.cm {i j : Int} (h : S40 i) (g : S40 j) : CMulW i j := wide_mul (a := 200) (b := 200) (Nat.lt_of_le_of_lt h (by decide +kernel)) (Nat.lt_of_le_of_lt g (by decide +kernel)) (by decide) (by decide) (by decide)
theorem S40.mul {i j : Int} (h : S40 i) (g : S40 j) : (i * j).natAbs ≤ 10 ^ 80 := by
  rw [Int.natAbs_mul]
  exact Nat.le_trans (Nat.mul_le_mul h g) (by decide +kernel)
theorem S40.sz {i : Int} (h : S40 i) : Sz i := sz_small (Nat.lt_of_le_of_lt h (by decide +kernel))
theorem sz80 {i : Int} (h : i.natAbs ≤ 10 ^ 80) : Sz i := sz_small (Nat.lt_of_le_of_lt h (by decide +kernel))
theorem sz80a {i j : Int} (h : i.natAbs ≤ 10 ^ 80) (g : j.natAbs ≤ 10 ^ 80) : Sz (i + j) := sz_small (by
  have z : (10 ^ 80 + 10 ^ 80 : Nat) < 10 ^ 100 := by decide +kernel
  omega)
theorem lowB_ne {p q : Int} (h : q ≠ 0) : lowB p q ≠ 0 := fun e => by
  obtain ⟨k, hk⟩ := com_dvdB p q
  have z : lowB p q = k := by
    unfold lowB
    conv => lhs; arg 1; rw [hk]
    exact Int.mul_fdiv_cancel_left _ (com_ne h)
  rw [z] at e
  rw [e, Int.mul_zero] at hk
  exact h hk
theorem low_eq {p q : Int} (h : q ≠ 0) : p = lowT p q * com p q ∧ q = lowB p q * com p q := by
  obtain ⟨j, hj⟩ := com_dvdT p q
  obtain ⟨k, hk⟩ := com_dvdB p q
  have z : lowB p q = k := by
    unfold lowB
    conv => lhs; arg 1; rw [hk]
    exact Int.mul_fdiv_cancel_left _ (com_ne h)
  have y : lowT p q = j := by
    unfold lowT
    conv => lhs; arg 1; rw [hj]
    exact Int.mul_fdiv_cancel_left _ (com_ne h)
  rw [z, y]
  exact ⟨by rw [Int.mul_comm]; exact hj, by rw [Int.mul_comm]; exact hk⟩
theorem int_low (n : Int) : lowT n 1 = n ∧ lowB n 1 = 1 := by
  have e : com n 1 = 1 := by
    unfold com
    rw [if_neg (by decide)]
    simp
  unfold lowT lowB
  rw [e]
  exact ⟨by simp, by simp⟩
theorem mul4 (a b c d : Int) : a * b * (c * d) = a * c * (b * d) := by
  rw [Int.mul_assoc, Int.mul_assoc, ← Int.mul_assoc b c d, Int.mul_comm b c, Int.mul_assoc c b d]
theorem low_sum {p q r s : Int} (hq : q ≠ 0) (hs : s ≠ 0) : lowT (lowT p q * lowB r s + lowT r s * lowB p q) (lowB p q * lowB r s) = lowT (p * s + r * q) (q * s) ∧ lowB (lowT p q * lowB r s + lowT r s * lowB p q) (lowB p q * lowB r s) = lowB (p * s + r * q) (q * s) := by
  obtain ⟨e1, e2⟩ := low_eq (p := p) hq
  obtain ⟨e3, e4⟩ := low_eq (p := r) hs
  have cn := Int.mul_ne_zero (com_ne (t := p) hq) (com_ne (t := r) hs)
  have bn := Int.mul_ne_zero (lowB_ne (p := p) hq) (lowB_ne (p := r) hs)
  have a1 : p * s + r * q = (lowT p q * lowB r s + lowT r s * lowB p q) * (com p q * com r s) := by
    rw [Int.add_mul, ← mul4 (lowT p q) (com p q) (lowB r s) (com r s), Int.mul_comm (com p q) (com r s), ← mul4 (lowT r s) (com r s) (lowB p q) (com p q), ← e1, ← e2, ← e3, ← e4]
  have a2 : q * s = (lowB p q * lowB r s) * (com p q * com r s) := by
    rw [← mul4 (lowB p q) (com p q) (lowB r s) (com r s), ← e2, ← e4]
  rw [a1, a2, lowT_mul _ _ cn bn, lowB_mul _ _ cn bn]
  exact ⟨rfl, rfl⟩
theorem low_prod {p q r s : Int} (hq : q ≠ 0) (hs : s ≠ 0) : lowT (lowT p q * lowT r s) (lowB p q * lowB r s) = lowT (p * r) (q * s) ∧ lowB (lowT p q * lowT r s) (lowB p q * lowB r s) = lowB (p * r) (q * s) := by
  obtain ⟨e1, e2⟩ := low_eq (p := p) hq
  obtain ⟨e3, e4⟩ := low_eq (p := r) hs
  have cn := Int.mul_ne_zero (com_ne (t := p) hq) (com_ne (t := r) hs)
  have bn := Int.mul_ne_zero (lowB_ne (p := p) hq) (lowB_ne (p := r) hs)
  have a1 : p * r = (lowT p q * lowT r s) * (com p q * com r s) := by
    rw [← mul4 (lowT p q) (com p q) (lowT r s) (com r s), ← e1, ← e3]
  have a2 : q * s = (lowB p q * lowB r s) * (com p q * com r s) := by
    rw [← mul4 (lowB p q) (com p q) (lowB r s) (com r s), ← e2, ← e4]
  rw [a1, a2, lowT_mul _ _ cn bn, lowB_mul _ _ cn bn]
  exact ⟨rfl, rfl⟩
theorem low_neg {p q : Int} (hq : q ≠ 0) : lowT (-(lowT p q)) (lowB p q) = lowT (-p) q ∧ lowB (-(lowT p q)) (lowB p q) = lowB (-p) q := by
  obtain ⟨e1, e2⟩ := low_eq (p := p) hq
  have cn := com_ne (t := p) hq
  have bn := lowB_ne (p := p) hq
  have a1 : -p = -(lowT p q) * com p q := by
    rw [Int.neg_mul, ← e1]
  constructor
  · rw [a1]
    conv => rhs; arg 2; rw [e2]
    rw [lowT_mul _ _ cn bn]
  · rw [a1]
    conv => rhs; arg 2; rw [e2]
    rw [lowB_mul _ _ cn bn]
/-- v is worth p / q: a share in lowest terms, or an int -/
def Rep (C : Addr) (H : Hp) (v : V) (p q : Int) : Prop := q ≠ 0 ∧ S40 p ∧ S40 q ∧ ((∃ x, v = .ref x ∧ ShrAt C H x (lowT p q) (lowB p q)) ∨ (v = .int p ∧ q = 1))
/-- a share that is worth p / q, of any size -/
def RepS (C : Addr) (H : Hp) (x : Addr) (p q : Int) : Prop := q ≠ 0 ∧ ShrAt C H x (lowT p q) (lowB p q)
theorem Rep.mono {C : Addr} {H H' : Hp} {v : V} {p q : Int} (R : Rep C H v p q) (e : Evl.Ex H H') : Rep C H' v p q := by
  obtain ⟨h1, h2, h3, h | h⟩ := R
  · obtain ⟨x, rfl, h⟩ := h
    exact ⟨h1, h2, h3, .inl ⟨x, rfl, h.mono e⟩⟩
  · exact ⟨h1, h2, h3, .inr h⟩
theorem RepS.mono {C : Addr} {H H' : Hp} {x : Addr} {p q : Int} (R : RepS C H x p q) (e : Evl.Ex H H') : RepS C H' x p q := ⟨R.1, R.2.mono e⟩
theorem RepS.rep {C : Addr} {H : Hp} {x : Addr} {p q : Int} (R : RepS C H x p q) (h2 : S40 p) (h3 : S40 q) : Rep C H (.ref x) p q := ⟨R.1, h2, h3, .inl ⟨x, rfl, R.2⟩⟩
theorem Rep.shr {C : Addr} {H : Hp} {a : Addr} {p q : Int} (R : Rep C H (.ref a) p q) : ShrAt C H a (lowT p q) (lowB p q) := by
  obtain ⟨h1, h2, h3, ⟨x, e, h⟩ | ⟨e, _⟩⟩ := R
  · cases e
    exact h
  · cases e
theorem Rep.bl {C : Addr} {H : Hp} {v : V} {p q : Int} (R : Rep C H v p q) {sp : Sp} {a dx : Addr} {fs : List (Str × V)} {Q : VK} {E : XK} (hA : H a = some (.ins C dx fs)) (h : sp [.ref a, v] H Q E) : rBinL C sp E (.ref a) v H Q := by
  obtain ⟨h1, h2, h3, ⟨x, rfl, ⟨dy, hx⟩⟩ | ⟨rfl, _⟩⟩ := R
  · exact .inl ⟨a, dx, fs, x, dy, _, rfl, rfl, hA, hx, h⟩
  · exact .inr ⟨a, dx, fs, p, rfl, rfl, hA, h⟩
/-- the text of a share in lowest terms -/
def txtS (t b : Int) : Str := if b = 1 then Str.ofString (toString t) else Str.ofString (toString t) ++ ("/" : Str) ++ Str.ofString (toString b)
/-- Share.__str__(self) -/
def spStr (C : Addr) : Sp := fun vs H Q _ => ∃ (x : Addr) (t b : Int), vs = [.ref x] ∧ ShrAt C H x t b ∧ Sz t ∧ Sz b ∧ ∀ H', Evl.Ex H H' → Q (.str (txtS t b)) H'
theorem ok_Share_str (T : Txt P K mg) : FnOk P w K mg base CX0 1 T.f_Share_str T.d_Share_str ["self"] (spStr T.C_Share) := by
  refine T.F_Share_str.ok sc_Share_str (fun vs H Q E h => ?_) (fun cdv A outer s H vs Q E hr h => ?_)
  · obtain ⟨x, t, b, rfl, _⟩ := h
    rfl
  · obtain ⟨x, t, b, rfl, ⟨dx, hx⟩, st, sb, q⟩ := h
    refine ⟨_, (pss_cons (ps_if (pt_cmpR op_eq (pe_fld (pv 0) rfl) pe_int (nomark _)) (pss_one (ps_ret (pe_callTy call_str_int (by rfl) T.n_str (by decide +kernel) (pa_cons (pe_fld (pv 0) rfl) pa_nil)))) pss_nil)
      (pss_one (ps_ret (pe_joined (.cons (pe_fmt (pe_fld (pv 0) rfl)) (.cons pe_str (.cons (pe_fmt (pe_fld (pv 0) rfl)) .nil))))))), ?_⟩
    refine ⟨_, rfl, x, _, dx, _, _, rfl, hx, T.cl_Share, T.na_Share_bottom, rfl, rfl, _, rfl, ite2 (fun z => ?_) (fun z => ?_)⟩
    · have z1 : b = 1 := by simpa using z
      refine ⟨_, rfl, x, _, dx, _, _, rfl, hx, T.cl_Share, T.na_Share_top, rfl, t, rfl, st.log, ?_⟩
      have y := q H (Evl.Ex.refl H)
      unfold txtS at y
      rw [if_pos z1] at y
      exact y
    · have z1 : ¬ b = 1 := by simpa using z
      have y := q H (Evl.Ex.refl H)
      unfold txtS at y
      rw [if_neg z1] at y
      have lt := st.len
      have lb := sb.len
      have e0 : Str.empty ++ Str.ofString (toString t) = Str.ofString (toString t) := emp_app _
      refine ⟨_, rfl, x, _, dx, _, _, rfl, hx, T.cl_Share, T.na_Share_top, rfl, .inr ⟨t, rfl, st.log, _, rfl, by rw [e0]; exact lineS (by omega), _, rfl, ?_, _, rfl, x, _, dx, _, _, rfl, hx, T.cl_Share, T.na_Share_bottom, rfl, .inr ⟨b, rfl, sb.log, _, rfl, ?_, ?_⟩⟩⟩
      · rw [e0, Str.length_append]
        exact lineS (by have : ("/" : Str).length = 1 := rfl; omega)
      · rw [e0, Str.length_append, Str.length_append]
        exact lineS (by have : ("/" : Str).length = 1 := rfl; omega)
      · rw [e0]
        exact y
/-! ### the law -/
section
variable {X : Cx}
open Evl in
theorem ev_fld {C a dx : Addr} {f : Str} {fs : List (Str × V)} {v : V} {σ : L2.St} {H : Hp} {ta : TE} (h : Ev ta σ H (.ref a)) (hx : H a = some (.ins C dx fs)) (cl : Cls K C) (na : NoAttr K C f) (hl : List.lookup f fs = some v) : Ev (tFld K ta f) σ H v :=
  fun H1 e Q q => h H1 e _ fun H2 e2 => ⟨a, C, dx, fs, v, rfl, e2 _ _ (e _ _ hx), cl, na, hl, q H2 e2⟩
open Evl in
theorem ev_lt {σ : L2.St} {H : Hp} {ta tb : TE} {i j : Int} {r : R2} (ha : Ev ta σ H (.int i)) (hb : Ev tb σ H (.int j)) (hr : RV r (.int i) (.int j) H (.bl (decide (i < j)))) : EvT (tTest (tOp r ta tb)) σ H (decide (i < j)) := et_test (ev_op ha hb hr)
end
/-- _law_gcd(one, other) -/
def spGcd : Sp := fun vs H Q _ => ∃ t b : Int, vs = [.int t, .int b] ∧ Sz b ∧ ∀ H', Evl.Ex H H' → Q (.int ((Nat.gcd t.natAbs b.natAbs : Nat) : Int)) H'
theorem ok__law_gcd (T : Txt P K mg) : FnOk P w K mg base CX0 1 T.f__law_gcd T.d__law_gcd ["_law_one", "_law_other"] spGcd := by
  refine T.F__law_gcd.ok sc__law_gcd (fun vs H Q E h => ?_) (fun cdv A outer s H vs Q E hr h => ?_)
  · obtain ⟨t, b, rfl, _⟩ := h
    rfl
  · obtain ⟨t, b, rfl, sb, q⟩ := h
    refine ⟨_, (pss_cons (ps_for PassesOwn.never rfl (pi_range1 rfl T.n_range (pa_cons pe_int pa_nil)) (pg_name (i := 2) sc__law_gcd.nd rfl (.inl rfl)) (pss_cons (ps_if (pt_cmpR op_eq (pv 1) pe_int (nomark _)) (pss_one (ps_ret (pe_callB call_abs (by rfl) T.n_abs (by decide +kernel) (pa_cons (pv 0) pa_nil)))) pss_nil)
      (pss_cons (ps_set (i := 3) sc__law_gcd.nd rfl (.inl rfl) (pe_op op_modN (pe_callTy call_int1 (by rfl) T.n_int (by decide +kernel) (pa_cons (pv 0) pa_nil)) (pv 1)))
      (pss_cons (ps_set (i := 0) sc__law_gcd.nd rfl (.inl rfl) (pv 1))
      (pss_one (ps_set (i := 1) sc__law_gcd.nd rfl (.inl rfl) (pv 3)))))))
      (pss_one (ps_ret pe_int))), ?_⟩
    have g0 : gcdF 1500 t b = ((Nat.gcd t.natAbs b.natAbs : Nat) : Int) := gcdF_eq 420 1500 t b sb (by decide)
    refine ⟨1500, rfl, by decide, by decide, for_range (lo := 0) (n := 1500) (fun i σ H' => ∃ (x y : Int) (u v : Option V), σ = [some (.int x), some (.int y), u, v] ∧ gcdF (1500 - i) x y = gcdF 1500 t b ∧ H' = H) ⟨t, b, _, _, rfl, rfl, rfl⟩ ?_ ?_⟩
    · rintro i σ H' hi ⟨x, y, u, v, rfl, hg, rfl⟩
      obtain ⟨n, hn⟩ : ∃ n, 1500 - i = n + 1 := ⟨1500 - i - 1, by omega⟩
      rw [hn] at hg
      refine ⟨_, rfl, rfl, _, rfl, ite2 (fun z => ?_) (fun z => ?_)⟩
      · have y0 : y = 0 := by simpa using z
        refine ⟨_, rfl, x, rfl, ?_⟩
        have e : (if x < 0 then -x else x) = ((Nat.gcd t.natAbs b.natAbs : Nat) : Int) := by
          rw [← g0, ← hg]
          unfold gcdF
          rw [if_pos y0]
        rw [e]
        exact q _ (Evl.Ex.refl _)
      · have y0 : ¬ y = 0 := by simpa using z
        refine ⟨_, rfl, .inl ⟨_, rfl, _, rfl, _, _, rfl, rfl, y0, _, rfl, _, rfl, ?_⟩⟩
        refine ⟨y, x.fmod y, _, _, rfl, ?_, rfl⟩
        rw [← hg, show 1500 - (i + 1) = n from by omega]
        conv => rhs; unfold gcdF
        rw [if_neg y0]
    · rintro σ H' ⟨x, y, u, v, rfl, hg, rfl⟩
      have e : (1 : Int) = ((Nat.gcd t.natAbs b.natAbs : Nat) : Int) := by
        rw [← g0, ← hg]
        rfl
      show Q (.int 1) H'
      rw [e]
      exact q _ (Evl.Ex.refl _)
/-- _law_is_share(share, top, bottom), the share in the lowest terms of these -/
def spIsShare (C : Addr) : Sp := fun vs H Q _ => ∃ (x : Addr) (t b : Int), vs = [.ref x, .int t, .int b] ∧ ShrAt C H x (lowT t b) (lowB t b) ∧ b ≠ 0 ∧ Sz t ∧ Sz b ∧ ∀ H', Evl.Ex H H' → Q (.bl true) H'
open Evl in
theorem ev_com {σ : L2.St} {H : Hp} {D : Ends} {tz : TS} {t b : Int} {tb : TE} {i : Nat} (hb : b ≠ 0)
    (hc : σ[i]? = some (some (.int ((Nat.gcd t.natAbs b.natAbs : Nat) : Int)))) (hlt : Ev tb σ H (.bl (decide (b < 0))))
    (q : ∀ H1, Ex H H1 → tz D (List.set σ i (some (.int (com t b)))) H1) : tSeq (tIfS (tTest tb) (tAsg (tUn (rU fun i => .int (-i)) (tVar i)) (gName i)) tNext) tz D σ H := by
  refine q_ifAsg (v := .int (com t b)) (et_test hlt) (fun z => ?_) (fun z => ?_) q
  · have z1 : b < 0 := by simpa using z
    refine ev_is (ev_un (ev_var hc) ru_neg) ?_
    unfold com
    rw [if_pos z1]
  · have z1 : ¬ b < 0 := by simpa using z
    have e : com t b = ((Nat.gcd t.natAbs b.natAbs : Nat) : Int) := by
      unfold com
      rw [if_neg z1]
    rw [e]
    exact List.ext_getElem? fun k => by
      rw [List.getElem?_set]
      split
      · rename_i hk
        subst hk
        rw [hc]
        split
        · rfl
        · rename_i hlt
          rw [List.getElem?_eq_none (by omega)] at hc
          cases hc
      · rfl
open Evl in
theorem ok__law_is_share (T : Txt P K mg) : FnOk P w K mg base CX0 2 T.f__law_is_share T.d__law_is_share ["_law_share", "_law_top", "_law_bottom"] (spIsShare T.C_Share) := by
  refine T.F__law_is_share.ok sc__law_is_share (fun vs H Q E h => ?_) (fun cdv A outer s H vs Q E hr h => ?_)
  · obtain ⟨x, t, b, rfl, _⟩ := h
    rfl
  · obtain ⟨x, t, b, rfl, ⟨dx, hx⟩, hb, st, sb, q⟩ := h
    refine ⟨_, (pss_cons (ps_if (PW.pt (pw_or (pt_not (pt_val (pe_callB (C8.call_isC T.ins_Share) (by rfl) T.n_isinstance (by decide +kernel) (pa_cons (pv 0) (pa_cons (pe_glob (v := .ref T.C_Share) rfl T.g_Share rfl) pa_nil))))) (pw_or1 (pt_cmpR op_eq (pv 2) pe_int (nomark _))))) (pss_one (ps_ret pe_bl)) pss_nil)
      (pss_cons (ps_set (i := 3) sc__law_is_share.nd rfl (.inl rfl) (pe_call (ok__law_gcd T) (hr.mono (by decide)) rfl T.g__law_gcd T.F__law_gcd.kp T.b__law_gcd .nil pass0 (pa_cons (pv 1) (pa_cons (pv 2) pa_nil))))
      (pss_cons (ps_if (pt_cmpR op_lt (pv 2) pe_int (nomark _)) (pss_one (ps_set (i := 3) sc__law_is_share.nd rfl (.inl rfl) (pe_un un_neg (pv 3)))) pss_nil)
      (pss_one (ps_ret (pe_and (pe_call (ok__law_same T) (hr.mono (by decide)) rfl T.g__law_same T.F__law_same.kp T.b__law_same .nil pass0 (pa_cons (pe_fld (pv 0) rfl) (pa_cons (pe_op op_fdivX (pv 1) (pv 3)) pa_nil))) (pe_one (pe_call (ok__law_same T) (hr.mono (by decide)) rfl T.g__law_same T.F__law_same.kp T.b__law_same .nil pass0 (pa_cons (pe_fld (pv 0) rfl) (pa_cons (pe_op op_fdivX (pv 2) (pv 3)) pa_nil)))))))))), ?_⟩
    refine q_when (b := false) (et_is (et_or (a := false) (b := false) (et_is (et_not (et_B (ev_cb (z := .bl true) (ea_cons (ev_var rfl) (ea_cons ev_c ea_nil)) (fun H1 e Q q => ⟨x, dx, _, rfl, e _ _ hx, q H1 (Ex.refl H1)⟩)))) rfl) (fun _ => et_is (et_test (ev_op (ev_var rfl) ev_c (rv_eq rfl))) (by simpa using hb))) rfl) (fun z => by cases z) (fun _ H1 e1 => ?_)
    refine q_asg (ev_call (ea_cons (ev_var rfl) (ea_cons (ev_var rfl) ea_nil)) (fun H2 e2 Q q E => ⟨t, b, rfl, sb, q⟩)) (fun H2 e2 => ?_)
    refine ev_com (t := t) hb rfl (ev_op (ev_var rfl) ev_c (fun H1 _ Q q => ⟨_, _, rfl, rfl, q H1 (Ex.refl H1)⟩)) (fun H3 e3 => ?_)
    have hx3 := e3 _ _ (e2 _ _ (e1 _ _ hx))
    have dv : ∀ i, CDivX i (com t b) := fun i => (sb.com hb).div (com_ne hb)
    refine s_ret (v := .bl true) (ev_is (ev_andV (a := true) (b := true) (ev_sameT (ev_fld (ev_var rfl) hx3 T.cl_Share T.na_Share_top rfl) (ev_op (ev_var rfl) (ev_var rfl) (rv_I (dv _))) rfl rfl rfl) (fun _ => ev_sameT (ev_fld (ev_var rfl) hx3 T.cl_Share T.na_Share_bottom rfl) (ev_op (ev_var rfl) (ev_var rfl) (rv_I (dv _))) rfl rfl rfl)) rfl) (fun H4 e4 => q H4 (((e1.trans e2).trans e3).trans e4))
/-- _law_number(source, parts) -/
def spNumber : Sp := fun vs H Q _ => ∃ (a : Addr) (m : Int), vs = [.ref a, .int m] ∧ Src H a ∧ 0 ≤ m ∧ m ≤ 5 ∧ ∀ H' n, n.natAbs < 10 ^ (10 * m.toNat + 1) → Src H' a → But a H H' → Q (.int n) H'
theorem p10 : (10 : Int) ^ (10 : Int).toNat = 10000000000 := by decide
theorem num_step {i : Nat} {n r : Int} (h0 : 0 ≤ n) (h : n < ((10 ^ (10 * i + 1) : Nat) : Int)) (r0 : 0 ≤ r) (r1 : r < 10000000000) : n * 10000000000 + r < ((10 ^ (10 * (i + 1) + 1) : Nat) : Int) := by
  have e : (10 ^ (10 * (i + 1) + 1) : Nat) = 10 ^ (10 * i + 1) * 10000000000 := by
    rw [show 10 * (i + 1) + 1 = 10 * i + 1 + 10 from by omega, Nat.pow_add]
  rw [e]
  generalize (10 ^ (10 * i + 1) : Nat) = p at *
  omega
theorem ok__law_number (T : Txt P K mg) : FnOk P w K mg base CX0 2 T.f__law_number T.d__law_number ["_law_source_here", "_law_parts"] spNumber := by
  refine T.F__law_number.ok sc__law_number (fun vs H Q E h => ?_) (fun cdv A outer s H vs Q E hr h => ?_)
  · obtain ⟨a, m, rfl, _⟩ := h
    rfl
  · obtain ⟨a, m, rfl, S, m0, m3, q⟩ := h
    refine ⟨_, (pss_cons (ps_set (i := 2) sc__law_number.nd rfl (.inl rfl) (pe_call (ok__law_take T) (hr.mono (by decide)) rfl T.g__law_take T.F__law_take.kp T.b__law_take .nil pass0 (pa_cons (pv 0) (pa_cons pe_int pa_nil))))
      (pss_cons (ps_for PassesOwn.never rfl (pi_range1 rfl T.n_range (pa_cons (pe_call (ok__law_take T) (hr.mono (by decide)) rfl T.g__law_take T.F__law_take.kp T.b__law_take .nil pass0 (pa_cons (pv 0) (pa_cons (pe_op op_add (pv 1) pe_int) pa_nil))) pa_nil)) (pg_name (i := 3) sc__law_number.nd rfl (.inl rfl)) (pss_one (ps_set (i := 2) sc__law_number.nd rfl (.inl rfl) (pe_op op_add (pe_op op_mulW (pv 2) (pe_op op_pow pe_int pe_int)) (pe_call (ok__law_take T) (hr.mono (by decide)) rfl T.g__law_take T.F__law_take.kp T.b__law_take .nil pass0 (pa_cons (pv 0) (pa_cons (pe_op op_pow pe_int pe_int) pa_nil)))))))
      (pss_cons (ps_if (pt_cmpR op_eq (pe_call (ok__law_take T) (hr.mono (by decide)) rfl T.g__law_take T.F__law_take.kp T.b__law_take .nil pass0 (pa_cons (pv 0) (pa_cons pe_int pa_nil))) pe_int (nomark _)) (pss_one (ps_ret (pe_un un_neg (pv 2)))) pss_nil)
      (pss_one (ps_ret (pv 2)))))), ?_⟩
    refine ⟨.ref a, rfl, a, 10, rfl, S, by decide, by decide, fun H1 r r0 r1 S1 B1 => ?_⟩
    refine ⟨.ref a, rfl, _, rfl, _, _, rfl, rfl, a, _, rfl, S1, by omega, by omega, fun H2 c c0 c1 S2 B2 => ?_⟩
    refine ⟨c, rfl, by omega, by omega, for_range (lo := 0) (n := c.toNat) (fun i σ H' => ∃ (n : Int) (v : Option V), σ = [some (.ref a), some (.int m), some (.int n), v] ∧ 0 ≤ n ∧ n < ((10 ^ (10 * i + 1) : Nat) : Int) ∧ Src H' a ∧ But a H H') ⟨r, _, rfl, r0, by simpa using r1, S2, B1.trans B2⟩ ?_ ?_⟩
    · rintro i σ H' hi ⟨n, v, rfl, n0, n1, S3, B3⟩
      have hi5 : i < 5 := by omega
      have nb : n.natAbs < 2 ^ 200 := by
        have z : (10 ^ (10 * i + 1) : Nat) ≤ 10 ^ 51 := Nat.pow_le_pow_right (by decide) (by omega)
        have y : (10 ^ 51 : Nat) < 2 ^ 200 := by decide
        omega
      refine ⟨_, rfl, _, _, rfl, rfl, ⟨by decide, by decide, by decide⟩, _, _, rfl, rfl, wide_mul (a := 200) (b := 64) nb (by decide) (by decide) (by decide) (by decide), ?_⟩
      refine ⟨.ref a, rfl, _, _, rfl, rfl, ⟨by decide, by decide, by decide⟩, a, _, rfl, S3, by decide, by decide, fun H4 d d0 d1 S4 B4 => ?_⟩
      rw [p10] at d1
      refine ⟨_, _, rfl, rfl, _, _, rfl, ?_, ?_, S4, B3.trans B4⟩
      · rw [p10]
        omega
      · rw [p10]
        exact num_step n0 n1 d0 d1
    · rintro σ H' ⟨n, v, rfl, n0, n1, S3, B3⟩
      have nn : n.natAbs < 10 ^ (10 * m.toNat + 1) := by
        have z : (10 ^ (10 * c.toNat + 1) : Nat) ≤ 10 ^ (10 * m.toNat + 1) := Nat.pow_le_pow_right (by decide) (by omega)
        omega
      refine ⟨.ref a, rfl, a, 2, rfl, S3, by decide, by decide, fun H4 d d0 d1 S4 B4 => ⟨rfl, _, rfl, ite2 (fun _ => ?_) (fun _ => ?_)⟩⟩
      · exact ⟨_, rfl, _, rfl, q _ _ (by rw [Int.natAbs_neg]; exact nn) S4 (B3.trans B4)⟩
      · exact ⟨_, rfl, q _ _ nn S4 (B3.trans B4)⟩
/-! ### texts -/
/-- a text of at most n signs, each below 128 -/
def Txt8 (n : Nat) (z : Str) : Prop := z.cps.size ≤ n ∧ ∀ c ∈ z.cps.toList, c < 128
theorem Txt8.app {n m : Nat} {x y : Str} (a : Txt8 n x) (b : Txt8 m y) : Txt8 (n + m) (x ++ y) := by
  have e : (x ++ y).cps = x.cps ++ y.cps := rfl
  refine ⟨?_, fun c hc => ?_⟩
  · rw [e, Array.size_append]
    have h1 := a.1
    have h2 := b.1
    omega
  · rw [e, Array.toList_append] at hc
    rcases List.mem_append.mp hc with h | h
    · exact a.2 c h
    · exact b.2 c h
theorem Txt8.mono {n m : Nat} {x : Str} (a : Txt8 n x) (h : n ≤ m) : Txt8 m x := ⟨Nat.le_trans a.1 h, a.2⟩
theorem Txt8.cut {n : Nat} {x : Str} (a : Txt8 n x) (lo hi : Option Int) : Txt8 n (cutS x lo hi) := by
  have e : (cutS x lo hi).cps.toList = (x.cps.toList.drop (HT.sIx x.length 0 lo)).take (HT.sIx x.length x.length hi - HT.sIx x.length 0 lo) := rfl
  refine ⟨?_, fun c hc => ?_⟩
  · rw [← Array.length_toList, e]
    have h1 := List.length_take_le (HT.sIx x.length x.length hi - HT.sIx x.length 0 lo) (x.cps.toList.drop (HT.sIx x.length 0 lo))
    have h2 := List.length_drop (i := HT.sIx x.length 0 lo) (l := x.cps.toList)
    have h3 : x.cps.toList.length ≤ n := by
      rw [Array.length_toList]
      exact a.1
    have h4 : ((x.cps.toList.drop (HT.sIx x.length 0 lo)).take (HT.sIx x.length x.length hi - HT.sIx x.length 0 lo)).length ≤ (x.cps.toList.drop (HT.sIx x.length 0 lo)).length := List.length_take_le' ..
    omega
  · rw [e] at hc
    exact a.2 c (List.mem_of_mem_drop (List.mem_of_mem_take hc))
theorem Txt8.sign {z : Str} {i c : Nat} (h : z.cps[i]? = some c) (a : ∀ c ∈ z.cps.toList, c < 128) : Txt8 1 ⟨#[c]⟩ := by
  refine ⟨Nat.le_refl _, fun d hd => ?_⟩
  have e : d = c := by simpa using hd
  rw [e]
  refine a c ?_
  rw [← Array.getElem?_toList] at h
  exact List.mem_of_getElem? h
theorem line_of {n : Nat} (h : n ≤ 1000) : n ≤ sizeLine := Nat.le_of_lt (small1000 h)
/-- an item of a written text -/
theorem item_of {z : Str} {r n : Int} (h0 : 0 ≤ r) (h : r < n) (hn : (z.cps.size : Int) = n) (ha : ∀ c ∈ z.cps.toList, c < 128) : ∃ c, z.cps[r.toNat]? = some c ∧ r < z.length ∧ Txt8 1 ⟨#[c]⟩ := by
  have hl : r.toNat < z.cps.size := by omega
  have e : z.cps[r.toNat]? = some z.cps[r.toNat] := Array.getElem?_eq_getElem hl
  exact ⟨_, e, by show r < (z.cps.size : Int); omega, Txt8.sign e ha⟩
/-- _law_sign(source) -/
def spSign : Sp := fun vs H Q _ => ∃ (a : Addr), vs = [.ref a] ∧ Src H a ∧ ∀ H' z, Txt8 1 z → Src H' a → But a H H' → Q (.str z) H'
theorem ok__law_sign (T : Txt P K mg) : FnOk P w K mg base CX0 2 T.f__law_sign T.d__law_sign ["_law_source_here"] spSign := by
  refine T.F__law_sign.ok sc__law_sign (fun vs H Q E h => ?_) (fun cdv A outer s H vs Q E hr h => ?_)
  · obtain ⟨a, rfl, _⟩ := h
    rfl
  · obtain ⟨a, rfl, S, q⟩ := h
    refine ⟨_, (pss_cons (ps_set (i := 1) sc__law_sign.nd rfl (.inl rfl) pe_str)
      (pss_cons (ps_set (i := 1) sc__law_sign.nd rfl (.inl rfl) (pe_op op_add_str (pv 1) pe_str))
      (pss_one (ps_ret (pe_item_str (pv 1) (pe_call (ok__law_take T) (hr.mono (by decide)) rfl T.g__law_take T.F__law_take.kp T.b__law_take .nil pass0 (pa_cons (pv 0) (pa_cons pe_int pa_nil))) (fun _ _ => rfl)))))), ?_⟩
    refine ⟨_, rfl, _, _, rfl, rfl, line_of (by decide), _, rfl, .ref a, rfl, a, 95, rfl, S, by decide, by decide, fun H1 r r0 r1 S1 B1 => ?_⟩
    obtain ⟨c, hc, hl, tc⟩ := item_of (z := (" !\"#$&'()*+,-./0123456789:;<=>?@ABCDEFGHIJKLMNOPQRSTUVWXYZ[\\]^_`" ++ "abcdefghijklmnopqrstuvwxyz{|}~\n" : Str)) r0 r1 (by decide) (by decide)
    exact ⟨_, _, c, rfl, rfl, r0, by omega, hl, hc, q _ _ tc S1 B1⟩
/-- begins it with a minus -/
def dashL (l : List Nat) : Bool := l.head? == some 45
def dash (z : Str) : Bool := dashL z.cps.toList
def Sl (l : List Nat) : Str := ⟨l.toArray⟩
theorem Sl_of (z : Str) : Sl z.cps.toList = z := rfl
/-- without its minus -/
def bare (z : Str) : Str := if dash z = true then Sl (z.cps.toList.drop 1) else z
theorem str_eq {x y : Str} (h : x.cps.toList = y.cps.toList) : x = y := by
  cases x with
  | mk a =>
    cases y with
    | mk b => rw [show a = b from Array.toList_inj.mp h]
theorem cut_1 (z : Str) : (cutS z none (some 1)).cps.toList = z.cps.toList.take 1 := by
  have e : HT.sIx z.length z.length (some 1) = min 1 z.length := HT.sIx_nat z.length z.length 1
  have l : z.cps.toList.length = z.length := Array.length_toList
  show ((z.cps.toList.drop (HT.sIx z.length 0 none)).take (HT.sIx z.length z.length (some 1) - HT.sIx z.length 0 none)).toArray.toList = _
  rw [e, HT.sIx_none, List.drop_zero, Nat.sub_zero]
  show List.take (min 1 z.length) z.cps.toList = _
  rw [← l, ← List.take_take, List.take_length]
theorem cut_from1 (z : Str) : (cutS z (some 1) none).cps.toList = z.cps.toList.drop 1 := by
  have e : HT.sIx z.length 0 (some 1) = min 1 z.length := HT.sIx_nat z.length 0 1
  have l : z.cps.toList.length = z.length := Array.length_toList
  show ((z.cps.toList.drop (HT.sIx z.length 0 (some 1))).take (HT.sIx z.length z.length none - HT.sIx z.length 0 (some 1))).toArray.toList = _
  rw [e, HT.sIx_none]
  show List.take (z.length - min 1 z.length) (z.cps.toList.drop (min 1 z.length)) = _
  rw [← l]
  cases z.cps.toList with
  | nil => rfl
  | cons c r =>
    rw [show min 1 (c :: r).length = 1 by rw [List.length_cons]; omega]
    show List.take ((c :: r).length - 1) r = r
    rw [List.length_cons, Nat.add_sub_cancel]
    exact List.take_length
theorem dash_cut (z : Str) : decide (V.str (cutS z none (some 1)) = V.str "-") = dash z := by
  unfold dash dashL
  by_cases h : z.cps.toList.head? = some 45
  · rw [show (z.cps.toList.head? == some 45) = true by rw [h]; rfl]
    refine decide_eq_true (congrArg V.str (str_eq ?_))
    rw [cut_1]
    cases e : z.cps.toList with
    | nil => rw [e] at h; cases h
    | cons c r =>
      rw [e] at h
      rw [show c = 45 from Option.some.inj h]
      rfl
  · rw [show (z.cps.toList.head? == some 45) = false from beq_eq_false_iff_ne.mpr h]
    refine decide_eq_false fun q => h ?_
    have q2 := congrArg (fun y : Str => y.cps.toList) (V.str.inj q)
    have q3 : z.cps.toList.take 1 = [45] := by
      rw [← cut_1]
      exact q2
    cases e : z.cps.toList with
    | nil => rw [e] at q3; cases q3
    | cons c r =>
      rw [e] at q3
      exact congrArg some (List.cons.inj q3).1
theorem bare_cut {z : Str} (h : dash z = true) : cutS z (some 1) none = bare z := by
  unfold bare
  rw [if_pos h]
  refine str_eq ?_
  rw [cut_from1]
  rfl
theorem bare_no {z : Str} (h : dash z = false) : bare z = z := by
  unfold bare
  rw [h, if_neg Bool.false_ne_true]
theorem bare_rp (z : Str) : Txt.removeprefix z "-" = bare z := by
  rw [PySem.StrLaws.removeprefix_eq, PySem.StrLaws.subAt_eq]
  have l : z.cps.toList.length = z.length := Array.length_toList
  have one : ("-" : Str).length = 1 := by decide
  have cp : ("-" : Str).cps.toList = [45] := by decide
  rw [one, cp, List.drop_zero]
  unfold bare dash dashL
  cases e : z.cps.toList with
  | nil =>
    rw [if_neg (by simp), if_neg (by simp)]
  | cons c r =>
    have hl : z.length = r.length + 1 := by
      rw [← l, e, List.length_cons]
    by_cases h : c = 45
    · subst h
      rw [if_pos (by rw [hl]; simp), if_pos (by rfl)]
      refine str_eq ?_
      show List.take (z.length - 1) (List.drop 1 (45 :: r)) = List.drop 1 (45 :: r)
      rw [hl, Nat.add_sub_cancel]
      exact List.take_length
    · rw [if_neg (by simp [h]), if_neg (by simp [h])]
open Evl in
theorem rv_inS {H : Hp} {c : Nat} {z : Str} : RV (fun x y H Q => ∃ (c : Nat) (z : Str), x = .str ⟨#[c]⟩ ∧ y = .str z ∧ Q (.bl (decide (c ∈ z.cps.toList))) H) (.str ⟨#[c]⟩) (.str z) H (.bl (decide (c ∈ z.cps.toList))) := fun H1 _ _ q => ⟨c, z, rfl, rfl, q H1 (Ex.refl H1)⟩
open Evl in
theorem rv_notInS {H : Hp} {c : Nat} {z : Str} : RV (fun x y H Q => ∃ (c : Nat) (z : Str), x = .str ⟨#[c]⟩ ∧ y = .str z ∧ Q (.bl (!decide (c ∈ z.cps.toList))) H) (.str ⟨#[c]⟩) (.str z) H (.bl (!decide (c ∈ z.cps.toList))) := fun H1 _ _ q => ⟨c, z, rfl, rfl, q H1 (Ex.refl H1)⟩
open Evl in
theorem rv_itemS {H : Hp} {c : Nat} {z : Str} {i : Nat} (h : z.cps[i]? = some c) (hz : z.cps.size ≤ 100000) : RV (fun x y H Q => ∃ z i c, x = .str z ∧ y = .int i ∧ 0 ≤ i ∧ i < 2 ^ 63 ∧ i < z.length ∧ z.cps[i.toNat]? = some c ∧ Q (.str ⟨#[c]⟩) H) (.str z) (.int (i : Int)) H (.str ⟨#[c]⟩) := fun H1 _ _ q => by
  have hl := (Array.getElem?_eq_some_iff.mp h).1
  have e : (z.length : Nat) = z.cps.size := rfl
  exact ⟨z, i, c, rfl, rfl, by omega, by omega, by omega, by rw [Int.toNat_natCast]; exact h, q H1 (Ex.refl H1)⟩
open Evl in
theorem ev_lenS {σ : L2.St} {H : Hp} {ta : TE} {z : Str} (h : Ev ta σ H (.str z)) (hz : z.cps.size ≤ 100000) : Ev (tCB (fun xs H Q => ∃ z, xs = [V.str z] ∧ z.length ≤ sizeLine ∧ Q (.int z.length) H) (tCons ta tNil)) σ H (.int (z.cps.size : Int)) :=
  ev_cb (ea_cons h ea_nil) fun H1 _ Q q => ⟨z, rfl, sz_of hz, q H1 (Ex.refl H1)⟩
open Evl in
theorem ev_chain {σ : L2.St} {H : Hp} {r r' : R2} {ta tb tc : TE} {x y z : V} {a b : Bool} (ha : Ev ta σ H x) (hb : Ev tb σ H y) (hr : RV r x y H (.bl a)) (h2 : a = true → Ev tc σ H z) (h3 : a = true → RV r' y z H (.bl b)) : Ev (tChain r r' ta tb tc) σ H (.bl (a && b)) := fun H1 e Q q =>
  ha H1 e _ fun H2 e2 => hb H2 (e.trans e2) _ fun H3 e3 => hr H3 ((e.trans e2).trans e3) _ fun H4 e4 => ⟨a, rfl, by
    cases a with
    | true =>
      refine iteT ?_
      exact h2 rfl H4 (((e.trans e2).trans e3).trans e4) _ fun H5 e5 => h3 rfl H5 ((((e.trans e2).trans e3).trans e4).trans e5) Q fun H6 e6 => q H6 ((((e2.trans e3).trans e4).trans e5).trans e6)
    | false =>
      refine iteF ?_
      exact q H4 ((e2.trans e3).trans e4)⟩
open Evl in
/-- [e for c in a text] -/
theorem el_lcS {σ : L2.St} {H : Hp} {z : Str} {tl te : TE} {j : Nat} {vs : List Nat} (f : Nat → V) (h : Ev tl σ H (.str z)) (hz : z.cps.size ≤ 40000) (hw : ∀ x, wipe ((wipe σ vs).set j (some x)) vs = wipe σ vs)
    (he : ∀ (c : Nat) H1, Ex H H1 → c ∈ z.cps.toList → Ev te ((wipe σ vs).set j (some (.str ⟨#[c]⟩))) H1 (f c)) : EvL (tLc (iStr tl) (gName j) tYes te vs) σ H (z.cps.toList.map f) := fun H0 e Q q => h H0 e _ fun H1 e1 => ⟨z, rfl, fun Dl hD => by
  refine lc_it walk_str (fun i H' => H1 Dl = none ∧ Ex H1 H' ∧ H' Dl = some (.lst ((z.cps.toList.take i).map f))) ⟨hD, Ex.new hD, upd_same⟩ (fun _ _ _ _ => trivial) ?_ ?_
  · rintro i x H2 H3 hi ⟨p1, p2, p3⟩ ⟨rfl, c, hc, rfl⟩
    have hc2 : z.cps.toList[i]? = some c := by
      rw [Array.getElem?_toList]
      exact hc
    have hm : c ∈ z.cps.toList := List.mem_of_getElem? hc2
    refine ⟨hw _, ?_⟩
    unfold tYes
    dsimp only
    rw [if_pos rfl]
    refine he c H1 (e.trans e1) hm H3 p2 _ fun H4 e4 => ⟨_, e4 _ _ p3, ?_, p1, Ex.mut (p2.trans e4) p1, ?_⟩
    · rw [List.length_map]
      exact sz_lt (by have := List.length_take_le i z.cps.toList; omega)
    · rw [List.take_add_one, hc2, List.map_append]
      exact upd_same
  · rintro H2 ⟨p1, p2, p3⟩
    have ef : z.cps.toList.take z.cps.size = z.cps.toList := by
      rw [← Array.length_toList]
      exact List.take_length
    rw [ef] at p3
    exact q Dl H2 (fresh_back e1 p1) (e1.trans p2) p3⟩
/-- _law_share_text(top, bottom) -/
def spText : Sp := fun vs H Q _ => ∃ t b : Int, vs = [.int t, .int b] ∧ b ≠ 0 ∧ Sz t ∧ Sz b ∧ ∀ H', Evl.Ex H H' → Q (.str (txtS (lowT t b) (lowB t b))) H'
open Evl in
theorem ev_strI {σ : L2.St} {H : Hp} {te : TE} {i : Int} (h : Ev te σ H (.int i)) (hs : Sz i) : Ev (tCB (fun xs H Q => ∃ i : Int, xs = [.int i] ∧ i.natAbs.log2 < 1920 ∧ Q (.str (Str.ofString (toString i))) H) (tCons te tNil)) σ H (.str (Str.ofString (toString i))) :=
  ev_cb (ea_cons h ea_nil) fun H1 _ Q q => ⟨i, rfl, hs.log, q H1 (Ex.refl H1)⟩
open Evl in
theorem rv_cat {H : Hp} {i j : Str} (h : i.length + j.length ≤ 1000) : RV (fun x y H Q => ∃ i j, x = V.str i ∧ y = V.str j ∧ i.length + j.length ≤ sizeLine ∧ Q (V.str (i ++ j)) H) (.str i) (.str j) H (.str (i ++ j)) := fun H1 _ Q q => ⟨i, j, rfl, rfl, lineS h, q H1 (Ex.refl H1)⟩
open Evl in
theorem ok__law_share_text (T : Txt P K mg) : FnOk P w K mg base CX0 2 T.f__law_share_text T.d__law_share_text ["_law_top", "_law_bottom"] spText := by
  refine T.F__law_share_text.ok sc__law_share_text (fun vs H Q E h => ?_) (fun cdv A outer s H vs Q E hr h => ?_)
  · obtain ⟨t, b, rfl, _⟩ := h
    rfl
  · obtain ⟨t, b, rfl, hb, st, sb, q⟩ := h
    refine ⟨_, (pss_cons (ps_set (i := 2) sc__law_share_text.nd rfl (.inl rfl) (pe_call (ok__law_gcd T) (hr.mono (by decide)) rfl T.g__law_gcd T.F__law_gcd.kp T.b__law_gcd .nil pass0 (pa_cons (pv 0) (pa_cons (pv 1) pa_nil))))
      (pss_cons (ps_if (pt_cmpR op_lt (pv 1) pe_int (nomark _)) (pss_one (ps_set (i := 2) sc__law_share_text.nd rfl (.inl rfl) (pe_un un_neg (pv 2)))) pss_nil)
      (pss_cons (ps_if (pt_cmpR op_eq (pe_op op_fdivX (pv 1) (pv 2)) pe_int (nomark _)) (pss_one (ps_ret (pe_callTy call_str_int (by rfl) T.n_str (by decide +kernel) (pa_cons (pe_op op_fdivX (pv 0) (pv 2)) pa_nil)))) pss_nil)
      (pss_one (ps_ret (pe_op op_add_str (pe_op op_add_str (pe_callTy call_str_int (by rfl) T.n_str (by decide +kernel) (pa_cons (pe_op op_fdivX (pv 0) (pv 2)) pa_nil)) pe_str) (pe_callTy call_str_int (by rfl) T.n_str (by decide +kernel) (pa_cons (pe_op op_fdivX (pv 1) (pv 2)) pa_nil)))))))), ?_⟩
    refine q_asg (ev_call (ea_cons (ev_var rfl) (ea_cons (ev_var rfl) ea_nil)) (fun H2 e2 Q q E => ⟨t, b, rfl, sb, q⟩)) (fun H2 e2 => ?_)
    refine ev_com (t := t) hb rfl (ev_op (ev_var rfl) ev_c (fun H1 _ Q q => ⟨_, _, rfl, rfl, q H1 (Ex.refl H1)⟩)) (fun H3 e3 => ?_)
    have dv : ∀ i, CDivX i (com t b) := fun i => (sb.com hb).div (com_ne hb)
    have evT : ∀ H, Ev (tOp (rI CDivX fun i j => .int (i.fdiv j)) (tVar 0) (tVar 2)) [some (.int t), some (.int b), some (.int (com t b))] H (.int (lowT t b)) := fun H => ev_op (ev_var rfl) (ev_var rfl) (rv_I (dv _))
    have evB : ∀ H, Ev (tOp (rI CDivX fun i j => .int (i.fdiv j)) (tVar 1) (tVar 2)) [some (.int t), some (.int b), some (.int (com t b))] H (.int (lowB t b)) := fun H => ev_op (ev_var rfl) (ev_var rfl) (rv_I (dv _))
    have sT : Sz (lowT t b) := st.top hb
    have sB : Sz (lowB t b) := sb.bot hb
    have lT := sT.len
    have lB := sB.len
    have l1 : ("/" : Str).length = 1 := rfl
    refine q_when (et_test (ev_op (evB _) ev_c (rv_eq rfl))) (fun z H4 e4 => ?_) (fun z H4 e4 => ?_)
    · have z1 : lowB t b = 1 := by simpa using z
      refine s_ret (ev_strI (evT _) sT) (fun H5 e5 => ?_)
      have y := q H5 (((e2.trans e3).trans e4).trans e5)
      unfold txtS at y
      rw [if_pos z1] at y
      exact y
    · have z1 : ¬ lowB t b = 1 := by simpa using z
      refine s_ret (ev_op (ev_op (ev_strI (evT _) sT) ev_c (rv_cat (by omega))) (ev_strI (evB _) sB) (rv_cat (by rw [Str.length_append]; omega))) (fun H5 e5 => ?_)
      have y := q H5 (((e2.trans e3).trans e4).trans e5)
      unfold txtS at y
      rw [if_neg z1] at y
      exact y
/-! ### decimal texts, and what reads as a share -/
def dgt (c : Nat) : Bool := decide (48 ≤ c) && decide (c ≤ 57)
theorem dgt_iff {c : Nat} : dgt c = true ↔ 48 ≤ c ∧ c ≤ 57 := by
  unfold dgt
  rw [Bool.and_eq_true, decide_eq_true_eq, decide_eq_true_eq]
theorem all_dgt {l : List Nat} : l.all dgt = true ↔ NumText.AllDigits l := by
  rw [List.all_eq_true]
  exact ⟨fun h c hc => dgt_iff.mp (h c hc), fun h c hc => dgt_iff.mpr (h c hc)⟩
/-- no zero ahead of other digits -/
def lead (l : List Nat) : Bool := decide (l = [48]) || !decide (l.head? = some 48)
def figs (l : List Nat) : Bool := !l.isEmpty && decide (l.length ≤ 60) && l.all dgt && lead l
theorem val_ge : ∀ (l : List Nat) (a : Nat), a ≤ l.foldl (fun acc c => acc * 10 + (c - 48)) a
  | [], a => Nat.le_refl _
  | c :: r, a => Nat.le_trans (by show a ≤ a * 10 + (c - 48); omega) (val_ge r (a * 10 + (c - 48)))
theorem val_pos {c : Nat} {r : List Nat} (h : 48 ≤ c) (n : c ≠ 48) : 1 ≤ NumText.digitsVal (c :: r) := by
  have z := val_ge r (0 * 10 + (c - 48))
  show 1 ≤ r.foldl _ (0 * 10 + (c - 48))
  omega
theorem val_snoc (l : List Nat) (d : Nat) : NumText.digitsVal (l ++ [d]) = NumText.digitsVal l * 10 + (d - 48) := by
  unfold NumText.digitsVal
  rw [List.foldl_append]
  rfl
theorem canon : ∀ (n : Nat) (l : List Nat), l.length = n → l ≠ [] → NumText.AllDigits l → lead l = true → l = TL.numL (NumText.digitsVal l)
  | 0, l, hn, hne, _, _ => absurd (List.length_eq_zero_iff.mp hn) hne
  | 1, l, hn, _, hd, _ => by
    match l, hn with
    | [d], _ =>
      have r := hd d (by simp)
      have e : NumText.digitsVal [d] = d - 48 := by
        unfold NumText.digitsVal
        simp
      rw [e, TL.numL_lt (by omega)]
      congr 1
      omega
  | n + 2, l, hn, hne, hd, hl => by
    obtain ⟨i, d, rfl⟩ : ∃ i d, l = i ++ [d] := ⟨l.dropLast, l.getLast hne, (List.dropLast_concat_getLast hne).symm⟩
    have hi : i.length = n + 1 := by
      rw [List.length_append] at hn
      simp at hn
      omega
    obtain ⟨c, r, rfl⟩ : ∃ c r, i = c :: r := by
      match i, hi with
      | c :: r, _ => exact ⟨c, r, rfl⟩
    have hc := hd c (by simp)
    have n48 : c ≠ 48 := fun e => by
      subst e
      unfold lead at hl
      rw [Bool.or_eq_true, decide_eq_true_eq] at hl
      rcases hl with hl | hl
      · simp at hl
      · simp at hl
    have hdi : NumText.AllDigits (c :: r) := fun x hx => hd x (List.mem_append_left _ hx)
    have ih := canon (n + 1) (c :: r) hi (by simp) hdi (by
      unfold lead
      rw [Bool.or_eq_true]
      right
      simp [n48])
    have hp := val_pos (r := r) hc.1 n48
    have hdd := hd d (by simp)
    rw [val_snoc]
    have a1 : (NumText.digitsVal (c :: r) * 10 + (d - 48)) / 10 = NumText.digitsVal (c :: r) := by omega
    have a2 : (NumText.digitsVal (c :: r) * 10 + (d - 48)) % 10 = d - 48 := by omega
    rw [TL.numL_step (by omega), a1, a2, ← ih]
    congr 2
    omega
theorem numL_head : ∀ (n : Nat), 1 ≤ n → (TL.numL n).head? ≠ some 48 := by
  intro n
  induction n using Nat.strongRecOn with
  | _ n ih =>
    intro h
    by_cases h10 : n < 10
    · rw [TL.numL_lt h10]
      simp
      omega
    · rw [TL.numL_step (by omega)]
      have z := ih (n / 10) (by omega) (by omega)
      cases e : TL.numL (n / 10) with
      | nil => exact absurd e (TL.numL_ne _)
      | cons c r =>
        rw [e] at z
        exact z
theorem numL_lead (n : Nat) : lead (TL.numL n) = true := by
  unfold lead
  by_cases h : n = 0
  · subst h
    rw [TL.numL_lt (by decide)]
    rfl
  · rw [decide_eq_false (numL_head n (by omega))]
    simp
theorem figs_iff {l : List Nat} : figs l = true ↔ l = TL.numL (NumText.digitsVal l) ∧ l.length ≤ 60 := by
  constructor
  · intro h
    unfold figs at h
    simp only [Bool.and_eq_true, decide_eq_true_eq] at h
    obtain ⟨⟨⟨h1, h2⟩, h3⟩, h4⟩ := h
    have hne : l ≠ [] := fun e => by
      subst e
      cases h1
    exact ⟨canon _ l rfl hne (all_dgt.mp h3) h4, h2⟩
  · rintro ⟨h, h2⟩
    have e := h
    generalize NumText.digitsVal l = n at h e
    subst h
    unfold figs
    rw [decide_eq_true h2, all_dgt.mpr (TL.numL_digits n), numL_lead]
    cases z : TL.numL n with
    | nil => exact absurd z (TL.numL_ne _)
    | cons c r => rfl
/-- an int's text -/
def intL (t : Int) : List Nat := if t < 0 then 45 :: TL.numL t.natAbs else TL.numL t.natAbs
theorem str_int (t : Int) : Str.ofString (toString t) = SX.S (intL t) := by
  unfold intL
  by_cases h : t < 0
  · rw [if_pos h]
    refine TL.ext_tl ?_
    rw [PyProof.Rows.toString_neg h, TL.tl_ofString]
    have e : (0 - t) = ((t.natAbs : Nat) : Int) := by omega
    rw [String.toList_append, List.map_append, e, ← TL.tl_ofString (toString ((t.natAbs : Nat) : Int)), TL.tl_num]
    rfl
  · rw [if_neg h]
    have e : t = ((t.natAbs : Nat) : Int) := by omega
    conv => lhs; rw [e]
    exact SX.num_S _
def txtL (t b : Int) : List Nat := if b = 1 then intL t else intL t ++ 47 :: intL b
theorem txt_S (t b : Int) : txtS t b = SX.S (txtL t b) := by
  unfold txtS txtL
  by_cases h : b = 1
  · rw [if_pos h, if_pos h]
    exact str_int t
  · rw [if_neg h, if_neg h, str_int, str_int, show ("/" : Str) = SX.S [47] from rfl, SX.S_cat, SX.S_cat, List.append_assoc]
    rfl
theorem intL_free (t : Int) : 47 ∉ intL t := by
  unfold intL
  split
  · intro h
    rcases List.mem_cons.mp h with h | h
    · cases h
    · exact TL.numL_free (.inl (by decide)) h
  · exact TL.numL_free (.inl (by decide))
theorem intL_pos (n : Nat) : intL (n : Int) = TL.numL n := by
  unfold intL
  rw [if_neg (by omega)]
  rfl
/-- the minus sign taken off -/
def bareL (l : List Nat) : List Nat := if l.head? = some 45 then l.drop 1 else l
theorem numL_45 (n : Nat) : (TL.numL n).head? ≠ some 45 := fun e => by
  have hm : 45 ∈ TL.numL n := List.mem_of_mem_head? e
  exact TL.numL_free (.inl (by decide)) hm
theorem bare_int (t : Int) : bareL (intL t) = TL.numL t.natAbs := by
  unfold intL bareL
  by_cases h : t < 0
  · rw [if_pos h]
    rfl
  · rw [if_neg h, if_neg (numL_45 _)]
def valI (l : List Nat) : Int := if l.head? = some 45 then -((NumText.digitsVal (l.drop 1) : Nat) : Int) else ((NumText.digitsVal l : Nat) : Int)
theorem val_int (t : Int) : valI (intL t) = t := by
  unfold intL valI
  by_cases h : t < 0
  · rw [if_pos h]
    show -((NumText.digitsVal (TL.numL t.natAbs) : Nat) : Int) = t
    rw [TL.numL_val]
    omega
  · rw [if_neg h, if_neg (numL_45 _), TL.numL_val]
    omega
def rdI (l : List Nat) : Bool := !(bareL l).isEmpty && (bareL l).all dgt && decide ((bareL l).length ≤ 60)
theorem rd_int {t : Int} (h : (TL.numL t.natAbs).length ≤ 60) : rdI (intL t) = true := by
  unfold rdI
  rw [bare_int, all_dgt.mpr (TL.numL_digits _), decide_eq_true h]
  cases z : TL.numL t.natAbs with
  | nil => exact absurd z (TL.numL_ne _)
  | cons c r => rfl
theorem rd_len {t : Int} (h : rdI (intL t) = true) : (TL.numL t.natAbs).length ≤ 60 := by
  unfold rdI at h
  rw [bare_int] at h
  simp only [Bool.and_eq_true, decide_eq_true_eq] at h
  exact h.2
theorem int_read {l : List Nat} (h : rdI l = true) : intText? (SX.S l) = some (valI l) := by
  unfold rdI at h
  simp only [Bool.and_eq_true, decide_eq_true_eq] at h
  obtain ⟨⟨h1, h2⟩, h3⟩ := h
  have hne : bareL l ≠ [] := fun e => by
    rw [e] at h1
    cases h1
  unfold valI
  unfold bareL at h2 h3 hne
  by_cases hd : l.head? = some 45
  · rw [if_pos hd] at h2 h3 hne
    rw [if_pos hd]
    obtain ⟨r, rfl⟩ : ∃ r, l = 45 :: r := by
      cases l with
      | nil => cases hd
      | cons c r => exact ⟨r, by rw [Option.some.inj hd]⟩
    exact intText_neg (x := SX.S (45 :: r)) rfl (all_dgt.mp h2) hne (by
      rw [SX.S_len]
      simp at h3 ⊢
      omega)
  · rw [if_neg hd] at h2 h3 hne
    rw [if_neg hd]
    exact intText_digits (x := SX.S l) (all_dgt.mp h2) hne (by rw [SX.S_len]; omega)
theorem valI_bound {l : List Nat} (h : rdI l = true) : (valI l).natAbs < 10 ^ 60 := by
  have key : ∀ r : List Nat, NumText.AllDigits r → NumText.digitsVal r < 10 ^ r.length := by
    intro r
    have z : ∀ (n : Nat) (r : List Nat), r.length = n → NumText.AllDigits r → NumText.digitsVal r < 10 ^ n := by
      intro n
      induction n with
      | zero =>
        intro r hr _
        rw [List.length_eq_zero_iff.mp hr]
        decide
      | succ n ih =>
        intro r hr hd
        have hne : r ≠ [] := fun e => by
          rw [e] at hr
          cases hr
        obtain ⟨i, d, rfl⟩ : ∃ i d, r = i ++ [d] := ⟨r.dropLast, r.getLast hne, (List.dropLast_concat_getLast hne).symm⟩
        have hi : i.length = n := by
          rw [List.length_append] at hr
          simp at hr
          exact hr
        have y := ih i hi fun x hx => hd x (List.mem_append_left _ hx)
        have hdd := hd d (by simp)
        rw [val_snoc, Nat.pow_succ]
        omega
    exact z _ r rfl
  unfold rdI at h
  simp only [Bool.and_eq_true, decide_eq_true_eq] at h
  obtain ⟨⟨h1, h2⟩, h3⟩ := h
  have k := key _ (all_dgt.mp h2)
  have k2 : (10 ^ (bareL l).length : Nat) ≤ 10 ^ 60 := Nat.pow_le_pow_right (by decide) h3
  have e : (valI l).natAbs = NumText.digitsVal (bareL l) := by
    unfold valI bareL
    split <;> omega
  rw [e]
  omega
/-- a text cut at its first slash -/
theorem cut1 (l : List Nat) : (47 ∉ l) ∨ ∃ p q, l = p ++ 47 :: q ∧ 47 ∉ p := by
  induction l with
  | nil => exact .inl (by simp)
  | cons c r ih =>
    by_cases h : c = 47
    · exact .inr ⟨[], r, by rw [h]; rfl, by simp⟩
    · rcases ih with ih | ⟨p, q, e, hp⟩
      · exact .inl fun hm => by
          rcases List.mem_cons.mp hm with z | z
          · exact h z.symm
          · exact ih z
      · exact .inr ⟨c :: p, q, by rw [e]; rfl, fun hm => by
          rcases List.mem_cons.mp hm with z | z
          · exact h z.symm
          · exact hp z⟩
theorem spl_no {l : List Nat} (h : 47 ∉ l) : TL.spl [47] 0 [] l = [l] := TL.spl_last1 h
theorem spl_yes {p q : List Nat} (h : 47 ∉ p) : TL.spl [47] 0 [] (p ++ 47 :: q) = p :: TL.spl [47] 0 [] q := by
  have z := TL.spl_part1 (S := []) (rest := q) (acc := []) h
  exact z
theorem spl_ne (l : List Nat) : TL.spl [47] 0 [] l ≠ [] := by
  rcases cut1 l with h | ⟨p, q, rfl, h⟩
  · rw [spl_no h]
    simp
  · rw [spl_yes h]
    simp
/-- what the law reads a text for -/
def partF (l : List Nat) : Option (Int × Int) :=
  if 2 < (TL.spl [47] 0 [] (bareL l)).length then none else
  if (TL.spl [47] 0 [] (bareL l)).all figs = false then none else
  if l.head? = some 45 ∧ NumText.digitsVal ((TL.spl [47] 0 [] (bareL l)).headD []) = 0 then none else
  if (TL.spl [47] 0 [] (bareL l)).length = 1 then some ((if l.head? = some 45 then -((NumText.digitsVal ((TL.spl [47] 0 [] (bareL l)).headD []) : Nat) : Int) else ((NumText.digitsVal ((TL.spl [47] 0 [] (bareL l)).headD []) : Nat) : Int)), 1) else
  if NumText.digitsVal ((TL.spl [47] 0 [] (bareL l)).getD 1 []) < 2 ∨ Nat.gcd (NumText.digitsVal ((TL.spl [47] 0 [] (bareL l)).headD [])) (NumText.digitsVal ((TL.spl [47] 0 [] (bareL l)).getD 1 [])) ≠ 1 then none else
  some ((if l.head? = some 45 then -((NumText.digitsVal ((TL.spl [47] 0 [] (bareL l)).headD []) : Nat) : Int) else ((NumText.digitsVal ((TL.spl [47] 0 [] (bareL l)).headD []) : Nat) : Int)), ((NumText.digitsVal ((TL.spl [47] 0 [] (bareL l)).getD 1 []) : Nat) : Int))
theorem int_head (t : Int) (q : List Nat) : (intL t ++ q).head? = some 45 ↔ t < 0 := by
  unfold intL
  by_cases h : t < 0
  · rw [if_pos h]
    exact ⟨fun _ => h, fun _ => rfl⟩
  · rw [if_neg h]
    refine ⟨fun z => ?_, fun z => absurd z h⟩
    cases e : TL.numL t.natAbs with
    | nil => exact absurd e (TL.numL_ne _)
    | cons c r =>
      rw [e] at z
      have z2 := numL_45 t.natAbs
      rw [e] at z2
      exact absurd z z2
theorem bare_app (t : Int) (q : List Nat) : bareL (intL t ++ q) = TL.numL t.natAbs ++ q := by
  unfold bareL
  by_cases h : t < 0
  · rw [if_pos ((int_head t q).mpr h)]
    unfold intL
    rw [if_pos h]
    rfl
  · rw [if_neg fun z => h ((int_head t q).mp z)]
    unfold intL
    rw [if_neg h]
theorem sgn_back (t : Int) (q : List Nat) : (if (intL t ++ q).head? = some 45 then -((t.natAbs : Nat) : Int) else ((t.natAbs : Nat) : Int)) = t := by
  by_cases h : t < 0
  · rw [if_pos ((int_head t q).mpr h)]
    omega
  · rw [if_neg fun z => h ((int_head t q).mp z)]
    omega
theorem part_one {t : Int} (h : (TL.numL t.natAbs).length ≤ 60) : partF (intL t) = some (t, 1) := by
  have b := bare_app t []
  have hh := int_head t []
  have sg := sgn_back t []
  rw [List.append_nil] at b hh sg
  rw [List.append_nil] at b
  have f : figs (TL.numL t.natAbs) = true := figs_iff.mpr ⟨by rw [TL.numL_val], h⟩
  unfold partF
  rw [b, spl_no (TL.numL_free (.inl (by decide)))]
  simp only [List.length_singleton, List.all_cons, List.all_nil, f, List.headD_cons, TL.numL_val, Bool.and_true]
  rw [if_neg (by decide), if_neg (by decide), if_neg (fun z => by have := hh.mp z.1; omega), if_pos trivial, sg]
theorem part_two {t : Int} {n : Nat} (h : (TL.numL t.natAbs).length ≤ 60) (hn : (TL.numL n).length ≤ 60) (h2 : 2 ≤ n) (g : Nat.gcd t.natAbs n = 1) : partF (intL t ++ 47 :: TL.numL n) = some (t, (n : Int)) := by
  have b := bare_app t (47 :: TL.numL n)
  have hh := int_head t (47 :: TL.numL n)
  have sg := sgn_back t (47 :: TL.numL n)
  have f : figs (TL.numL t.natAbs) = true := figs_iff.mpr ⟨by rw [TL.numL_val], h⟩
  have f2 : figs (TL.numL n) = true := figs_iff.mpr ⟨by rw [TL.numL_val], hn⟩
  unfold partF
  rw [b, spl_yes (TL.numL_free (.inl (by decide))), spl_no (TL.numL_free (.inl (by decide)))]
  simp only [List.length_cons, List.length_nil, List.all_cons, List.all_nil, f, f2, List.headD_cons, TL.numL_val, Bool.and_true, List.getD_cons_succ, List.getD_cons_zero, g]
  rw [if_neg (by decide), if_neg (by decide), if_neg (fun z => by have := hh.mp z.1; omega), if_neg (by decide), if_neg (by omega), sg]
/-- only such texts are taken -/
theorem part_inv {l : List Nat} {t b : Int} (h : partF l = some (t, b)) : (l = intL t ∧ b = 1 ∧ (TL.numL t.natAbs).length ≤ 60) ∨
    ∃ n : Nat, b = (n : Int) ∧ l = intL t ++ 47 :: TL.numL n ∧ (TL.numL t.natAbs).length ≤ 60 ∧ (TL.numL n).length ≤ 60 ∧ 2 ≤ n ∧ Nat.gcd t.natAbs n = 1 := by
  unfold partF at h
  -- the sign put back
  have back : ∀ (a q : List Nat), bareL l = a ++ q → a = TL.numL (NumText.digitsVal a) → ¬ (l.head? = some 45 ∧ NumText.digitsVal a = 0) →
      l = intL (if l.head? = some 45 then -((NumText.digitsVal a : Nat) : Int) else ((NumText.digitsVal a : Nat) : Int)) ++ q ∧ (if l.head? = some 45 then -((NumText.digitsVal a : Nat) : Int) else ((NumText.digitsVal a : Nat) : Int)).natAbs = NumText.digitsVal a := by
    intro a q e ea nz
    unfold bareL at e
    by_cases hd : l.head? = some 45
    · rw [if_pos hd] at e ⊢
      have n0 : NumText.digitsVal a ≠ 0 := fun z => nz ⟨hd, z⟩
      obtain ⟨r, rfl⟩ : ∃ r, l = 45 :: r := by
        cases l with
        | nil => cases hd
        | cons c r => exact ⟨r, by rw [Option.some.inj hd]⟩
      refine ⟨?_, by omega⟩
      unfold intL
      rw [if_pos (by omega), show (-((NumText.digitsVal a : Nat) : Int)).natAbs = NumText.digitsVal a from by omega, ← ea]
      have e2 : r = a ++ q := e
      rw [e2]
      rfl
    · rw [if_neg hd] at e ⊢
      refine ⟨?_, by omega⟩
      rw [intL_pos, ← ea]
      exact e
  split at h
  · cases h
  rename_i c1
  split at h
  · cases h
  rename_i c2
  split at h
  · cases h
  rename_i c3
  rcases cut1 (bareL l) with hn | ⟨p, q, e, hp⟩
  · rw [spl_no hn] at h c1 c2 c3
    simp only [List.all_cons, List.all_nil, Bool.and_true, List.headD_cons] at h c2 c3
    have f : figs (bareL l) = true := by
      cases z : figs (bareL l) with
      | true => rfl
      | false => exact absurd z c2
    obtain ⟨ec, el⟩ := figs_iff.mp f
    rw [if_pos (by rfl)] at h
    obtain ⟨b1, b2⟩ := back (bareL l) [] (by rw [List.append_nil]) ec c3
    rw [List.append_nil] at b1
    have ht := (Prod.mk.inj (Option.some.inj h)).1
    have hb := (Prod.mk.inj (Option.some.inj h)).2
    rw [ht] at b1 b2
    exact .inl ⟨b1, hb.symm, by rw [b2, ← ec]; exact el⟩
  · rw [e, spl_yes hp] at h c1 c2 c3
    rcases cut1 q with hq | ⟨p2, q2, e2, hp2⟩
    · rw [spl_no hq] at h c1 c2 c3
      simp only [List.all_cons, List.all_nil, Bool.and_true, List.headD_cons, List.length_cons, List.length_nil, List.getD_cons_succ, List.getD_cons_zero] at h c2 c3
      have f : figs p = true ∧ figs q = true := by
        cases z1 : figs p <;> cases z2 : figs q <;> first | exact ⟨rfl, rfl⟩ | (rw [z1, z2] at c2; exact absurd rfl c2)
      obtain ⟨ec, el⟩ := figs_iff.mp f.1
      obtain ⟨ec2, el2⟩ := figs_iff.mp f.2
      rw [if_neg (by decide)] at h
      split at h
      · cases h
      rename_i c5
      obtain ⟨b1, b2⟩ := back p (47 :: q) e ec c3
      have ht := (Prod.mk.inj (Option.some.inj h)).1
      have hb := (Prod.mk.inj (Option.some.inj h)).2
      rw [ht] at b1 b2
      refine .inr ⟨NumText.digitsVal q, hb.symm, by rw [← ec2]; exact b1, by rw [b2, ← ec]; exact el, by rw [← ec2]; exact el2, by omega, ?_⟩
      rw [b2]
      exact Classical.byContradiction fun z => c5 (.inr z)
    · rw [e2, spl_yes hp2] at c1
      have z := spl_ne q2
      have y : 0 < (TL.spl [47] 0 [] q2).length := List.length_pos_iff.mpr z
      exact absurd (by show 2 < (TL.spl [47] 0 [] q2).length + 1 + 1; omega) c1
/-! the program's way -/
def topL (l : List Nat) : List Nat := match TL.par [47] [] l with | some (p, _) => p | none => l
def botL (l : List Nat) : List Nat := match TL.par [47] [] l with | some (_, q) => q | none => [49]
theorem par_no {l : List Nat} (h : 47 ∉ l) : TL.par [47] [] l = none := TL.par_none1 h
theorem par_yes {p q : List Nat} (h : 47 ∉ p) : TL.par [47] [] (p ++ 47 :: q) = some (p, q) := by
  have z := TL.par_part1 (S := []) (rest := q) (acc := []) h
  exact z
def reads (l : List Nat) : Prop := rdI (topL l) = true ∧ rdI (botL l) = true ∧ valI (botL l) ≠ 0 ∧ txtL (lowT (valI (topL l)) (valI (botL l))) (lowB (valI (topL l)) (valI (botL l))) = l
theorem low_id {t : Int} {n : Nat} (h : 1 ≤ n) (g : Nat.gcd t.natAbs n = 1) : lowT t (n : Int) = t ∧ lowB t (n : Int) = (n : Int) := by
  have e : com t (n : Int) = 1 := by
    unfold com
    rw [if_neg (by omega)]
    have z : Nat.gcd t.natAbs ((n : Int)).natAbs = 1 := g
    rw [z]
    rfl
  unfold lowT lowB
  rw [e]
  exact ⟨Int.fdiv_one _, Int.fdiv_one _⟩
theorem reads_of {l : List Nat} {t b : Int} (h : partF l = some (t, b)) : reads l ∧ valI (topL l) = t ∧ valI (botL l) = b := by
  rcases part_inv h with ⟨rfl, rfl, hl⟩ | ⟨n, rfl, rfl, hl, hl2, h2, g⟩
  · have e1 : topL (intL t) = intL t := by
      unfold topL
      rw [par_no (intL_free t)]
    have e2 : botL (intL t) = [49] := by
      unfold botL
      rw [par_no (intL_free t)]
    have e3 : valI [49] = 1 := rfl
    unfold reads
    rw [e1, e2, val_int, e3]
    have z := low_id (t := t) (n := 1) (by decide) (Nat.gcd_one_right _)
    refine ⟨⟨rd_int hl, rfl, by decide, ?_⟩, rfl, rfl⟩
    rw [show (1 : Int) = ((1 : Nat) : Int) from rfl, z.1, z.2]
    unfold txtL
    exact if_pos rfl
  · have e1 : topL (intL t ++ 47 :: TL.numL n) = intL t := by
      unfold topL
      rw [par_yes (intL_free t)]
    have e2 : botL (intL t ++ 47 :: TL.numL n) = intL (n : Int) := by
      unfold botL
      rw [par_yes (intL_free t), intL_pos]
    have z := low_id (t := t) (by omega) g
    unfold reads
    rw [e1, e2, val_int, val_int]
    refine ⟨⟨rd_int hl, rd_int (by rw [Int.natAbs_natCast]; exact hl2), by omega, ?_⟩, rfl, rfl⟩
    rw [z.1, z.2]
    unfold txtL
    rw [if_neg (by omega), intL_pos]
theorem lowB_pos {t b : Int} (h : b ≠ 0) : 0 < lowB t b := by
  have g : 0 < Nat.gcd t.natAbs b.natAbs := Nat.gcd_pos_of_pos_right _ (by omega)
  obtain ⟨e1, e2⟩ := low_eq (p := t) h
  rcases Int.lt_or_gt_of_ne (lowB_ne (p := t) h) with z | z
  · have hc : com t b ≠ 0 := com_ne h
    unfold com at hc e2
    split at e2
    · rename_i hb
      have y : 0 < lowB t b * -((Nat.gcd t.natAbs b.natAbs : Nat) : Int) := Int.mul_pos_of_neg_of_neg z (by omega)
      omega
    · rename_i hb
      have y : lowB t b * ((Nat.gcd t.natAbs b.natAbs : Nat) : Int) < 0 := Int.mul_neg_of_neg_of_pos z (by omega)
      omega
  · exact z
theorem low_gcd {t b : Int} (h : b ≠ 0) : Nat.gcd (lowT t b).natAbs (lowB t b).natAbs = 1 := by
  have g : 0 < Nat.gcd t.natAbs b.natAbs := Nat.gcd_pos_of_pos_right _ (by omega)
  obtain ⟨e1, e2⟩ := low_eq (p := t) h
  have z : Nat.gcd t.natAbs b.natAbs = Nat.gcd (lowT t b).natAbs (lowB t b).natAbs * (com t b).natAbs := by
    conv => lhs; rw [e1]; arg 2; rw [e2]
    rw [Int.natAbs_mul, Int.natAbs_mul, Nat.gcd_mul_right]
  rw [com_abs] at z
  exact Nat.eq_of_mul_eq_mul_right g (by rw [← z, Nat.one_mul])
theorem not_reads {l : List Nat} (h : partF l = none) : ¬ reads l := by
  rintro ⟨h1, h2, h3, h4⟩
  have bp := lowB_pos (t := valI (topL l)) h3
  have bg := low_gcd (t := valI (topL l)) h3
  generalize lowT (valI (topL l)) (valI (botL l)) = T at h4 bg
  generalize lowB (valI (topL l)) (valI (botL l)) = B at h4 bg bp
  obtain ⟨n, rfl⟩ : ∃ n : Nat, B = (n : Int) := ⟨B.toNat, by omega⟩
  unfold txtL at h4
  by_cases hB : (n : Int) = 1
  · rw [if_pos hB] at h4
    subst h4
    have e1 : topL (intL T) = intL T := by
      unfold topL
      rw [par_no (intL_free T)]
    rw [e1] at h1
    rw [part_one (rd_len h1)] at h
    cases h
  · rw [if_neg hB, intL_pos] at h4
    subst h4
    have e1 : topL (intL T ++ 47 :: TL.numL n) = intL T := by
      unfold topL
      rw [par_yes (intL_free T)]
    have e2 : botL (intL T ++ 47 :: TL.numL n) = intL (n : Int) := by
      unfold botL
      rw [par_yes (intL_free T), intL_pos]
    rw [e1] at h1
    rw [e2] at h2
    have l2 := rd_len h2
    rw [Int.natAbs_natCast] at l2 bg
    rw [part_two (rd_len h1) l2 (by omega) bg] at h
    cases h
section
open Evl
theorem mkS (T : Txt P K mg) : Mk K T.C_Share T.f_Share_init := ⟨T.mi_Share, T.m_Share_init, T.i_Share_init, T.kc_Share⟩
theorem bare_S (l : List Nat) : bare (SX.S l) = SX.S (bareL l) := by
  unfold bare dash dashL bareL
  show (if (l.head? == some 45) = true then Sl (l.drop 1) else SX.S l) = _
  by_cases h : l.head? = some 45
  · rw [if_pos (beq_iff_eq.mpr h), if_pos h]
    rfl
  · rw [if_neg (fun z => h (beq_iff_eq.mp z)), if_neg h]
theorem dec128 : ∀ c, c < 128 → Unicode.isDecimal c = dgt c := by decide +kernel
theorem isdec_S {l : List Nat} (h : ∀ c ∈ l, c < 128) : Txt.isdecimal (SX.S l) = (!l.isEmpty && l.all dgt) := by
  unfold Txt.isdecimal
  have e : (SX.S l).cps.all Unicode.isDecimal = l.all Unicode.isDecimal := by
    show l.toArray.all Unicode.isDecimal = _
    rw [← Array.all_toList]
  rw [e, SX.S_len]
  have e2 : l.all Unicode.isDecimal = l.all dgt := by
    clear e
    induction l with
    | nil => rfl
    | cons c r ih =>
      rw [List.all_cons, List.all_cons, dec128 c (h c (by simp)), ih fun d hd => h d (List.mem_cons_of_mem _ hd)]
  rw [e2]
  cases l with
  | nil => rfl
  | cons c r =>
    rw [decide_eq_true (show 0 < (c :: r).length by simp)]
    rfl
theorem bare_mem {l : List Nat} {c : Nat} (h : c ∈ bareL l) : c ∈ l := by
  unfold bareL at h
  split at h
  · exact List.mem_of_mem_drop h
  · exact h
theorem bare_le (l : List Nat) : (bareL l).length ≤ l.length := by
  unfold bareL
  split
  · rw [List.length_drop]
    omega
  · exact Nat.le_refl _
theorem szS (l : List Nat) : (SX.S l).cps.size = l.length := by
  show l.toArray.size = _
  exact List.size_toArray
/-- _reads_as_integer(text) -/
def spRI : Sp := fun vs H Q _ => ∃ l : List Nat, vs = [.str (SX.S l)] ∧ (∀ c ∈ l, c < 128) ∧ l.length ≤ 600 ∧ ∀ H', Ex H H' → Q (.bl (rdI l)) H'
theorem rv_rpS {H : Hp} {te : TE} {σ : L2.St} {l : List Nat} (h : Ev te σ H (.str (SX.S l))) (hz : l.length ≤ 600) : Ev (tBM K "str" (fun x xs H Q => ∃ a b, x = .str a ∧ xs = [.str b] ∧ a.length ≤ sizeLine ∧ Q (.str (Txt.removeprefix a b)) H) te (tCons (tC (.str "-")) tNil)) σ H (.str (SX.S (bareL l))) := fun H1 e Q q =>
  h H1 e _ fun H2 e2 => ⟨rfl, SX.S l, "-", rfl, rfl, line_of (by rw [SX.S_len]; omega), by rw [bare_rp, bare_S]; exact q H2 e2⟩
theorem ok__reads_as_integer (T : Txt P K mg) : FnOk P w K mg base CX0 1 T.f__reads_as_integer T.d__reads_as_integer ["text"] spRI := by
  refine T.F__reads_as_integer.ok sc__reads_as_integer (fun vs H Q E h => ?_) (fun cdv A outer s H vs Q E hr h => ?_)
  · obtain ⟨l, rfl, _⟩ := h
    rfl
  · obtain ⟨l, rfl, hc, hl, q⟩ := h
    refine ⟨_, (pss_cons (ps_set (i := 1) sc__reads_as_integer.nd rfl (.inl rfl) (pe_bm PySem.F.plainAttrs_str PySem.F.slot_str_removeprefix PySem.F.type_str_removeprefix mt_removeprefix (pv 0) (pa_cons pe_str pa_nil)))
      (pss_one (ps_ret (pe_and (pe_bm0 PySem.F.plainAttrs_str PySem.F.slot_str_isdecimal PySem.F.type_str_isdecimal mt_isdecimal (pv 1)) (pe_one (pe_cmpR op_le (pe_callB call_len_str (by rfl) T.n_len PySem.boot_len (pa_cons (pv 1) pa_nil)) (pe_glob (v := .int 60) rfl T.v_MOST_DIGITS ⟨_, rfl⟩) (nomark _))))))), ?_⟩
    refine q_asg (rv_rpS (ev_var rfl) hl) (fun H1 e1 => ?_)
    have bl := bare_le l
    refine ⟨_, rfl, rfl, _, rfl, rfl, trivial, _, rfl, ?_⟩
    rw [isdec_S fun c h => hc c (bare_mem h)]
    have z := q H1 e1
    unfold rdI at z
    cases hd : (!(bareL l).isEmpty && (bareL l).all dgt) with
    | false =>
      rw [hd] at z
      refine iteF ?_
      exact z
    | true =>
      rw [hd] at z
      refine iteT ?_
      refine ⟨_, rfl, _, rfl, line_of (by rw [SX.S_len]; omega), _, _, rfl, rfl, ?_⟩
      have e : decide (((SX.S (bareL l)).length : Int) ≤ 60) = (true && decide ((bareL l).length ≤ 60)) := by
        rw [SX.S_len, Bool.true_and]
        exact decide_eq_decide.mpr (by omega)
      show Q (.bl (decide (((SX.S (bareL l)).length : Int) ≤ 60))) H1
      rw [e]
      exact z
/-- Share.read(text) -/
def spRead (C CB : Addr) : Sp := fun vs H Q E => ∃ l : List Nat, vs = [.str (SX.S l)] ∧ (∀ c ∈ l, c < 128) ∧ l.length ≤ 450 ∧
  (∀ t b, partF l = some (t, b) → ∀ H' z, Ex H H' → ShrAt C H' z (lowT t b) (lowB t b) → Q (.ref z) H') ∧ (partF l = none → ∀ H' d, Ex H H' → H' d = some (.xd [("text", .str (SX.S l))]) → E (.ref CB) (some d) H')
theorem top_le (l : List Nat) : (topL l).length ≤ l.length ∧ (botL l).length ≤ l.length + 1 ∧ (∀ c ∈ topL l, c ∈ l) ∧ (∀ c ∈ botL l, c ∈ l ∨ c = 49) := by
  rcases cut1 l with h | ⟨p, q, rfl, h⟩
  · unfold topL botL
    rw [par_no h]
    exact ⟨Nat.le_refl _, by simp, fun c hc => hc, fun c hc => .inr (by simpa using hc)⟩
  · unfold topL botL
    rw [par_yes h]
    refine ⟨by simp, by simp; omega, fun c hc => List.mem_append_left _ hc, fun c hc => .inl (List.mem_append_right _ (List.mem_cons_of_mem _ hc))⟩
/-- what partition gives -/
theorem part_S (l : List Nat) : ∃ sl bo : List Nat, Txt.partition (SX.S l) "/" = (SX.S (topL l), SX.S sl, SX.S bo) ∧ ((sl = [47] ∧ bo = botL l) ∨ (sl = [] ∧ botL l = [49])) := by
  have e : ("/" : Str) = SX.S [47] := rfl
  rcases cut1 l with h | ⟨p, q, rfl, h⟩
  · refine ⟨[], [], ?_, .inr ⟨rfl, ?_⟩⟩
    · rw [e, SX.partition_none (by simp) (par_no h)]
      unfold topL
      rw [par_no h]
    · unfold botL
      rw [par_no h]
  · refine ⟨[47], q, ?_, .inl ⟨rfl, ?_⟩⟩
    · rw [e, SX.partition_some (by simp) (par_yes h)]
      unfold topL
      rw [par_yes h]
    · unfold botL
      rw [par_yes h]
theorem sz_val {l : List Nat} (h : rdI l = true) : Sz (valI l) := sz_small (Nat.lt_trans (valI_bound h) (by decide +kernel))
theorem ok_Share_read (T : Txt P K mg) : FnOk P w K mg base (L2N.CX P w) 4 T.f_Share_read T.d_Share_read ["text"] (spRead T.C_Share T.C_BadShare) := by
  refine T.F_Share_read.okN sc_Share_read (fun vs H Q E h => ?_) (fun cdv A outer s H vs Q E hr h => ?_)
  · obtain ⟨l, rfl, _⟩ := h
    rfl
  · obtain ⟨l, rfl, hc, hl, k, ke⟩ := h
    refine ⟨_, (pss_cons (ps_asg (pe_bm PySem.F.plainAttrs_str PySem.F.slot_str_partition PySem.F.type_str_partition mt_partition (pv 0) (pa_cons pe_str pa_nil)) (pg_tup rfl (pgs_cons (pg_name (i := 2) sc_Share_read.nd rfl (.inl rfl)) (pgs_cons (pg_name (i := 3) sc_Share_read.nd rfl (.inl rfl)) (pgs_cons (pg_name (i := 4) sc_Share_read.nd rfl (.inl rfl)) pgs_nil)))))
      (Evl.pss_cut (ps_if (pt_not (pt_truth (pv 3) (fun _ => rfl))) (pss_one (ps_set (i := 4) sc_Share_read.nd rfl (.inl rfl) pe_str)) pss_nil)
      (pss_cons (ps_if (PW.pt (pw_or (pt_not (pt_val (pe_call (ok__reads_as_integer T) (hr.mono (by decide)) rfl T.g__reads_as_integer T.F__reads_as_integer.kp T.b__reads_as_integer .nil pass0 (pa_cons (pv 2) pa_nil)))) (pw_or1 (pt_not (pt_val (pe_call (ok__reads_as_integer T) (hr.mono (by decide)) rfl T.g__reads_as_integer T.F__reads_as_integer.kp T.b__reads_as_integer .nil pass0 (pa_cons (pv 4) pa_nil))))))) (pss_one (L2N.ps_raise rfl (L2N.takes_of rfl rfl rfl rfl) (pmk1 T.E_BadShare rfl fld_text T.o_BadShare hr (pa_cons (pv 0) pa_nil) rfl (by decide)))) pss_nil)
      (pss_cons (ps_if (pt_cmpR op_eq (pe_callTy call_int_str (by rfl) T.n_int (by decide +kernel) (pa_cons (pv 4) pa_nil)) pe_int (nomark _)) (pss_one (L2N.ps_raise rfl (L2N.takes_of rfl rfl rfl rfl) (pmk1 T.E_BadShare rfl fld_text T.o_BadShare hr (pa_cons (pv 0) pa_nil) rfl (by decide)))) pss_nil)
      (pss_cons (ps_set (i := 1) sc_Share_read.nd rfl (.inl rfl) (pe_make (mkS T) (ok_Share_init T) (hr.mono (by decide)) rfl T.g_Share T.b_Share_init .nil passN (pa_cons (pe_callTy call_int_str (by rfl) T.n_int (by decide +kernel) (pa_cons (pv 2) pa_nil)) (pa_cons (pe_callTy call_int_str (by rfl) T.n_int (by decide +kernel) (pa_cons (pv 4) pa_nil)) pa_nil))))
      (pss_cons (ps_if (pt_cmpR op_ne (pe_callTy (call_strO T.m_Share_str T.i_Share_str (ok_Share_str T) (hr.mono (by decide)) T.b_Share_str pass0) (by rfl) T.n_str (by decide +kernel) (pa_cons (pv 1) pa_nil)) (pv 0) (nomark _)) (pss_one (L2N.ps_raise rfl (L2N.takes_of rfl rfl rfl rfl) (pmk1 T.E_BadShare rfl fld_text T.o_BadShare hr (pa_cons (pv 0) pa_nil) rfl (by decide)))) pss_nil)
      (pss_one (ps_ret (pv 1))))))))), ?_⟩
    obtain ⟨lt, lb, mt, mb⟩ := top_le l
    have ct : ∀ c ∈ topL l, c < 128 := fun c h => hc c (mt c h)
    have cb : ∀ c ∈ botL l, c < 128 := fun c h => by
      rcases mb c h with z | z
      · exact hc c z
      · omega
    -- a refusal
    have no : ¬ reads l → ∀ (x : Addr → Prop) (σ : L2.St) (H1 : Hp), σ[0]? = some (some (.str (SX.S l))) → Ex H H1 → (fun σ H => tMk1 T.C_BadShare "text" me_BadShare (tCons (tVar 0) tNil) σ H fun cls d H' => (fun cls d _ H' => E cls d H') cls d σ H') σ H1 := by
      intro hn _ σ H1 h0 e1
      have hp : partF l = none := by
        cases e : partF l with
        | none => rfl
        | some p => exact absurd (reads_of (t := p.1) (b := p.2) e).1 hn
      refine ⟨_, h0, _, rfl, fun u hu => ?_, fun d hd => ke hp _ d (e1.trans (Ex.new hd)) upd_same⟩
      obtain ⟨t, rfl⟩ := hu
      refine msg_crL fld_text (by decide) ?_
      have h := PySem.StrLaws.reprText_len (SX.S l) fun c h => Nat.lt_trans (hc c h) (by decide)
      have z := SX.S_len l
      omega
    obtain ⟨sl, bo, ep, hs⟩ := part_S l
    refine ⟨_, rfl, rfl, _, _, rfl, rfl, rfl, line_of (by rw [SX.S_len]; omega), fun p hp => ?_⟩
    rw [ep]
    have e0 : Ex H (upd H p (.tup [.str (SX.S (topL l)), .str (SX.S sl), .str (SX.S bo)])) := Ex.new hp
    refine ⟨p, _, rfl, SqT.of upd_same, rfl, _, _, rfl, _, _, rfl, _, _, rfl, rfl, ?_⟩
    generalize upd H p (.tup [.str (SX.S (topL l)), .str (SX.S sl), .str (SX.S bo)]) = H0 at e0 ⊢
    refine ⟨fun σ H' => H' = H0 ∧ σ = [some (.str (SX.S l)), none, some (.str (SX.S (topL l))), some (.str (SX.S sl)), some (.str (SX.S (botL l)))], ?_, ?_⟩
    · rcases hs with ⟨rfl, rfl⟩ | ⟨rfl, hb⟩
      · exact ⟨_, rfl, true, ⟨line_of (by show (SX.S [47]).length ≤ 1000; decide), (by show true = (((SX.S [47]).length : Int) != 0); decide)⟩, ⟨rfl, rfl⟩⟩
      · refine ⟨_, rfl, false, ⟨line_of (by show (SX.S []).length ≤ 1000; decide), (by show false = (((SX.S []).length : Int) != 0); decide)⟩, ⟨rfl, ?_⟩⟩
        rw [hb]
        rfl
    rintro σ' H' ⟨rfl, rfl⟩
    refine q_when (b := !rdI (topL l) || !rdI (botL l)) (et_or (et_not (et_B (ev_call (ea_cons (ev_var rfl) ea_nil) fun H1 e Q q E => ⟨topL l, rfl, ct, by omega, q⟩))) (fun _ => et_not (et_B (ev_call (ea_cons (ev_var rfl) ea_nil) fun H1 e Q q E => ⟨botL l, rfl, cb, by omega, q⟩)))) (fun z H1 e1 => ?_) (fun z H1 e1 => ?_)
    · refine no (fun r => ?_) (fun _ => True) _ H1 rfl (e0.trans e1)
      rw [r.1, r.2.1] at z
      cases z
    rw [Bool.or_eq_false_iff, Bool.not_eq_false', Bool.not_eq_false'] at z
    obtain ⟨rt, rb⟩ := z
    have ev_int : ∀ {σ : L2.St} {H : Hp} {te : TE} {x : List Nat}, Ev te σ H (.str (SX.S x)) → rdI x = true → x.length ≤ 640 → Ev (tCB (fun xs H Q => ∃ a n, xs = [.str a] ∧ PySem.intText? a = some n ∧ a.length ≤ 640 ∧ Q (.int n) H) (tCons te tNil)) σ H (.int (valI x)) := fun h hr hx => ev_cb (ea_cons h ea_nil) fun H1 _ Q q => ⟨_, _, rfl, int_read hr, by rw [SX.S_len]; exact hx, q H1 (Ex.refl H1)⟩
    refine q_when (et_test (ev_op (ev_int (ev_var rfl) rb (by omega)) ev_c (rv_eq rfl))) (fun z H2 e2 => ?_) (fun z H2 e2 => ?_)
    · exact no (fun r => r.2.2.1 (by simpa using z)) (fun _ => True) _ H2 rfl ((e0.trans e1).trans e2)
    have nb : valI (botL l) ≠ 0 := by simpa using z
    have st := sz_val rt
    have sb := sz_val rb
    refine ⟨_, rfl, _, _, rfl, int_read rt, by rw [SX.S_len]; omega, _, rfl, _, _, rfl, int_read rb, by rw [SX.S_len]; omega, fun x dx nx ndx nex => ⟨x, dx, _, _, rfl, upd_same, st, sb, fun _ H3 k3 h3 => ⟨rfl, ?_⟩, fun e => absurd e nb⟩⟩
    have e3 := mk_ex nx ndx k3
    have sT : Sz (lowT (valI (topL l)) (valI (botL l))) := st.top nb
    have sB : Sz (lowB (valI (topL l)) (valI (botL l))) := sb.bot nb
    refine ⟨_, rfl, x, dx, _, rfl, h3, x, _, _, rfl, ⟨dx, h3⟩, sT, sB, fun H4 e4 => ⟨_, rfl, _, rfl, rfl, _, rfl, ?_⟩⟩
    rw [txt_S]
    have e04 := ((((e0.trans e1).trans e2).trans e3).trans e4)
    by_cases hx : txtL (lowT (valI (topL l)) (valI (botL l))) (lowB (valI (topL l)) (valI (botL l))) = l
    · have r : reads l := ⟨rt, rb, nb, hx⟩
      rw [hx, decide_eq_true rfl]
      refine iteF ?_
      cases e : partF l with
      | none => exact absurd r (not_reads e)
      | some pr =>
        obtain ⟨_, h1, h2⟩ := reads_of (t := pr.1) (b := pr.2) e
        refine ⟨_, rfl, k pr.1 pr.2 e H4 x e04 ?_⟩
        rw [← h1, ← h2]
        exact ⟨dx, e4 _ _ h3⟩
    · rw [decide_eq_false fun z => hx (SX.S_inj (V.str.inj z))]
      refine iteT ?_
      exact no (fun r => hx r.2.2.2) (fun _ => True) _ H4 rfl e04
end
section
open Evl
theorem dig_list : ("0123456789" : Str).cps.toList = [48, 49, 50, 51, 52, 53, 54, 55, 56, 57] := by decide +kernel
theorem dig_dgt (c : Nat) : decide (c ∈ ("0123456789" : Str).cps.toList) = dgt c := by
  rw [dig_list]
  unfold dgt
  rw [← Bool.decide_and]
  refine decide_eq_decide.mpr ⟨fun h => ?_, fun h => ?_⟩
  · simp at h
    omega
  · simp
    omega
/-- _law_figures(text) -/
def spFig : Sp := fun vs H Q _ => ∃ l : List Nat, vs = [.str (SX.S l)] ∧ l.length ≤ 450 ∧ ∀ H', Ex H H' → Q (.bl (figs l)) H'
theorem zero_S : ("0" : Str) = SX.S [48] := rfl
theorem ok__law_figures (T : Txt P K mg) : FnOk P w K mg base CX0 1 T.f__law_figures T.d__law_figures ["_law_text_here"] spFig := by
  refine T.F__law_figures.ok sc__law_figures (fun vs H Q E h => ?_) (fun cdv A outer s H vs Q E hr h => ?_)
  · obtain ⟨l, rfl, _⟩ := h
    rfl
  · obtain ⟨l, rfl, hl, q⟩ := h
    refine ⟨_, (pss_cons (ps_if (PW.pt (pw_or (pt_cmpR op_eq (pe_callB call_len_str (by rfl) T.n_len PySem.boot_len (pa_cons (pv 0) pa_nil)) pe_int (nomark _)) (pw_or (pt_cmpR op_gt (pe_callB call_len_str (by rfl) T.n_len PySem.boot_len (pa_cons (pv 0) pa_nil)) pe_int (nomark _)) (pw_or1 (pt_not (pt_val (pe_callB (cr_all rfl) (by rfl) T.n_all (by decide +kernel) (pa_cons (pe_lc (own := [("_law_sign_here", 1)]) (g := gName 1) (by rfl) sc__law_figures.nd (pi_str (pv 0)) (blkOk_by (own := [("_law_sign_here", 1)]) (N := N__law_figures) (sc := defScope s__law_figures) (by decide +kernel)) (fun _ _ _ _ _ => pg_name (i := 1) sc__law_figures.nd rfl (Or.inl rfl)) (fun _ _ _ _ _ => pts_nil) (fun _ _ _ _ _ => (pe_cmpR op_in_sign (pv 1) pe_str (by rfl)))) pa_nil)))))))) (pss_one (ps_ret pe_bl)) pss_nil)
      (pss_one (ps_ret (pe_or (pe_cmpR op_eq (pv 0) pe_str (nomark _)) (pe_one (pe_cmpR op_ne (pe_item_str (pv 0) pe_int (fun _ _ => rfl)) pe_str (nomark _))))))), ?_⟩
    have vz : ∀ (σ : L2.St) (H : Hp), σ[0]? = some (some (V.str (SX.S l))) → Ev (tVar 0) σ H (.str (SX.S l)) := fun σ H e => ev_var e
    have sz := szS l
    refine q_when (b := decide (l.length = 0) || (decide (60 < l.length) || !l.all dgt)) (et_or (et_test (ev_is (ev_op (ev_lenS (vz _ _ rfl) (by omega)) ev_c (rv_eq rfl)) ?_)) (fun h0 => et_or (et_test (ev_op (ev_lenS (vz _ _ rfl) (by omega)) ev_c (fun H1 _ Q q => ⟨_, 60, rfl, rfl, ?_⟩))) (fun h8 => et_not (et_B (ev_is (ev_all (bs := l.map dgt) ?_) ?_))))) (fun hb H1 e1 => ?_) (fun hb H1 e1 => ?_)
    · refine congrArg V.bl (decide_eq_decide.mpr ⟨fun x => ?_, fun x => ?_⟩)
      · have y := V.int.inj x
        omega
      · rw [sz, x]
        rfl
    · have e : decide ((60 : Int) < ((SX.S l).cps.size : Int)) = decide (60 < l.length) := decide_eq_decide.mpr (by omega)
      show Q (.bl (decide ((60 : Int) < ((SX.S l).cps.size : Int)))) H1
      rw [e]
      exact q H1 (Ex.refl H1)
    · rw [List.map_map]
      have z := el_lcS (f := fun c => V.bl (dgt c)) (te := tOp (fun x y H Q => ∃ (c : Nat) (z : Str), x = .str ⟨#[c]⟩ ∧ y = .str z ∧ Q (.bl (decide (c ∈ z.cps.toList))) H) (tVar 1) (tC (.str "0123456789"))) (j := 1) (vs := [1]) (vz [some (.str (SX.S l)), none] H rfl) (by omega) (fun _ => rfl) (fun c H2 e2 hm => by
        have y := ev_op (tb := tC (.str "0123456789")) (ta := tVar 1) (σ := [some (.str (SX.S l)), some (.str ⟨#[c]⟩)]) (H := H2) (ev_var rfl) ev_c (rv_inS (c := c) (z := "0123456789"))
        rw [dig_dgt] at y
        exact y)
      exact z
    · rw [List.all_map]
      rfl
    · refine s_ret (v := .bl (figs l)) (ev_is ev_c ?_) (fun H2 e2 => q H2 (e1.trans e2))
      refine congrArg V.bl ?_
      unfold figs
      rw [Bool.or_eq_true, Bool.or_eq_true, decide_eq_true_eq, decide_eq_true_eq, Bool.not_eq_true'] at hb
      rcases hb with h | h | h
      · rw [List.length_eq_zero_iff.mp h]
        rfl
      · rw [decide_eq_false (show ¬ l.length ≤ 60 by omega)]
        simp
      · rw [h]
        simp
    · rw [Bool.or_eq_false_iff, Bool.or_eq_false_iff, Bool.not_eq_false'] at hb
      obtain ⟨h0, h60, hd⟩ := hb
      have n0 : l.length ≠ 0 := of_decide_eq_false h0
      have n60 : ¬ 60 < l.length := of_decide_eq_false h60
      obtain ⟨c, r, rfl⟩ : ∃ c r, l = c :: r := by
        cases l with
        | nil => exact absurd rfl n0
        | cons c r => exact ⟨c, r, rfl⟩
      have c0 : (SX.S (c :: r)).cps[0]? = some c := by
        rw [← Array.getElem?_toList]
        rfl
      refine s_ret (v := .bl (figs (c :: r))) (ev_is (ev_orV (a := decide (c :: r = [48])) (b := !decide (c = 48)) (ev_is (ev_op (vz _ _ rfl) ev_c (rv_eq rfl)) ?_) (fun _ => ev_is (ev_op (ev_op (vz _ _ rfl) ev_c (rv_itemS (i := 0) c0 (by omega))) ev_c (rv_ne rfl)) ?_)) ?_) (fun H2 e2 => q H2 (e1.trans e2))
      · refine congrArg V.bl (decide_eq_decide.mpr ⟨fun x => ?_, fun x => ?_⟩)
        · exact SX.S_inj (V.str.inj x)
        · rw [x]
          rfl
      · refine congrArg V.bl (congrArg not (decide_eq_decide.mpr ⟨fun x => ?_, fun x => ?_⟩))
        · have y : SX.S [c] = SX.S [48] := V.str.inj x
          have z := SX.S_inj y
          exact (List.cons.inj z).1
        · rw [x]
          rfl
      · unfold figs lead
        rw [hd, decide_eq_true (show (c :: r).length ≤ 60 by omega)]
        have e : decide ((c :: r).head? = some 48) = decide (c = 48) := decide_eq_decide.mpr ⟨fun x => Option.some.inj x, fun x => by rw [x]; rfl⟩
        rw [e]
        rfl
theorem cut_S {l : List Nat} {i : Int} (h : 0 ≤ i) : cutS (SX.S l) (some i) none = SX.S (l.drop i.toNat) := by
  rw [C8.cutS_slice]
  exact SX.slice_from h
theorem given_map (n : Nat) (v : Nat → V) : given n (fun _ => true) v = (List.range n).map v := by
  unfold given
  rw [List.filter_eq_self.mpr fun _ _ => rfl]
theorem given_figs (ps : List (List Nat)) : given ps.length (fun _ => true) (fun i => V.bl (figs (ps.getD i []))) = (ps.map figs).map V.bl := by
  rw [given_map]
  refine List.ext_getElem? fun k => ?_
  rw [List.getElem?_map, List.getElem?_map, List.getElem?_map]
  by_cases h : k < ps.length
  · rw [List.getElem?_range h, List.getElem?_eq_getElem h]
    have e : ps.getD k [] = ps[k] := by
      rw [List.getD_eq_getElem?_getD, List.getElem?_eq_getElem h]
      rfl
    show some (V.bl (figs (ps.getD k []))) = some (V.bl (figs ps[k]))
    rw [e]
  · rw [List.getElem?_eq_none (by rw [List.length_range]; omega), List.getElem?_eq_none (by omega)]
    rfl
theorem spl_mem (l : List Nat) : ∀ p ∈ TL.spl [47] 0 [] l, p.length ≤ l.length := by
  generalize hn : l.length = n
  induction n using Nat.strongRecOn generalizing l with
  | _ n ih =>
    intro p hp
    rcases cut1 l with h | ⟨a, q, rfl, h⟩
    · rw [spl_no h] at hp
      rw [List.mem_singleton.mp hp]
      omega
    · rw [spl_yes h] at hp
      have e : (a ++ 47 :: q).length = a.length + (q.length + 1) := by simp
      rcases List.mem_cons.mp hp with z | z
      · rw [z]
        omega
      · have y := ih q.length (by omega) q rfl p z
        omega
theorem spl_len (l : List Nat) : (TL.spl [47] 0 [] l).length ≤ l.length + 1 := by
  generalize hn : l.length = n
  induction n using Nat.strongRecOn generalizing l with
  | _ n ih =>
    rcases cut1 l with h | ⟨a, q, rfl, h⟩
    · rw [spl_no h]
      simp
    · rw [spl_yes h]
      have e : (a ++ 47 :: q).length = a.length + (q.length + 1) := by simp
      have y := ih q.length (by omega) q rfl
      simp only [List.length_cons]
      omega
theorem fig_read {l : List Nat} (h : figs l = true) : intText? (SX.S l) = some ((NumText.digitsVal l : Nat) : Int) ∧ l.length ≤ 60 := by
  unfold figs at h
  simp only [Bool.and_eq_true, decide_eq_true_eq] at h
  obtain ⟨⟨⟨h1, h2⟩, h3⟩, h4⟩ := h
  have hne : l ≠ [] := fun e => by
    subst e
    cases h1
  exact ⟨intText_digits (x := SX.S l) (all_dgt.mp h3) hne (by rw [SX.S_len]; omega), h2⟩
theorem fig_sz {l : List Nat} (h : figs l = true) : Sz ((NumText.digitsVal l : Nat) : Int) := by
  have z := (figs_iff.mp h).1
  have l45 : l.head? ≠ some 45 := by
    rw [z]
    exact numL_45 _
  have r : rdI l = true := by
    unfold figs at h
    simp only [Bool.and_eq_true, decide_eq_true_eq] at h
    obtain ⟨⟨⟨h1, h2⟩, h3⟩, h4⟩ := h
    unfold rdI bareL
    rw [if_neg l45, h1, h3, decide_eq_true h2]
    rfl
  have y := sz_val r
  unfold valI at y
  rw [if_neg l45] at y
  exact y
/-- _law_parted(text) -/
def spPart : Sp := fun vs H Q _ => ∃ l : List Nat, vs = [.str (SX.S l)] ∧ l.length ≤ 450 ∧ (partF l = none → ∀ H', Ex H H' → Q .non H') ∧ (∀ t b, partF l = some (t, b) → ∀ H' u, Ex H H' → H' u = some (.tup [.int t, .int b]) → Q (.ref u) H')
theorem ok__law_parted (T : Txt P K mg) : FnOk P w K mg base CX0 2 T.f__law_parted T.d__law_parted ["_law_text_here"] spPart := by
  refine T.F__law_parted.ok sc__law_parted (fun vs H Q E h => ?_) (fun cdv A outer s H vs Q E hr h => ?_)
  · obtain ⟨l, rfl, _⟩ := h
    rfl
  · obtain ⟨l, rfl, hl, kn, ks⟩ := h
    refine ⟨_, (pss_cons (ps_set (i := 1) sc__law_parted.nd rfl (.inl rfl) (pe_cmpR op_eq (pe_slice sl_str (pv 0) po_none (po_some pe_int)) pe_str (nomark _)))
      (pss_cons (ps_set (i := 2) sc__law_parted.nd rfl (.inl rfl) (pe_bm PySem.F.plainAttrs_str PySem.F.slot_str_split PySem.F.type_str_split mt_split (pe_slice sl_str (pv 0) (po_some (pe_callTy call_int1 (by rfl) T.n_int (by decide +kernel) (pa_cons (pv 1) pa_nil))) po_none) (pa_cons pe_str pa_nil)))
      (pss_cons (ps_if (PW.pt (pw_or (pt_cmpR op_gt (pe_callB call_len_seq (by rfl) T.n_len PySem.boot_len (pa_cons (pv 2) pa_nil)) pe_int (nomark _)) (pw_or1 (pt_not (pt_val (pe_callB (cr_all rfl) (by rfl) T.n_all (by decide +kernel) (pa_cons (pe_lc (own := [("_law_part", 5)]) (g := gName 5) (by rfl) sc__law_parted.nd (pi_list (pv 2)) (blkOk_by (own := [("_law_part", 5)]) (N := N__law_parted) (sc := defScope s__law_parted) (by decide +kernel)) (fun _ _ _ _ _ => pg_name (i := 5) sc__law_parted.nd rfl (Or.inl rfl)) (fun _ _ _ _ _ => pts_nil) (fun _ _ _ _ _ => (pe_call (ok__law_figures T) (hr.mono (by decide)) rfl T.g__law_figures T.F__law_figures.kp T.b__law_figures .nil pass0 (pa_cons (pv 5) pa_nil)))) pa_nil))))))) (pss_one (ps_ret pe_non)) pss_nil)
      (pss_cons (ps_set (i := 3) sc__law_parted.nd rfl (.inl rfl) (pe_callTy call_int_str (by rfl) T.n_int (by decide +kernel) (pa_cons (pe_ix ix_list (pv 2) pe_int (fun _ _ => rfl)) pa_nil)))
      (pss_cons (ps_if (PW.pt (pw_and (pt_val (pv 1)) (pw_and1 (pt_cmpR op_eq (pv 3) pe_int (nomark _))))) (pss_one (ps_ret pe_non)) pss_nil)
      (pss_cons (ps_if (pt_val (pv 1)) (pss_one (ps_set (i := 3) sc__law_parted.nd rfl (.inl rfl) (pe_un un_neg (pv 3)))) pss_nil)
      (pss_cons (ps_if (pt_cmpR op_eq (pe_callB call_len_seq (by rfl) T.n_len PySem.boot_len (pa_cons (pv 2) pa_nil)) pe_int (nomark _)) (pss_one (ps_ret (pe_tup (pa_cons (pv 3) (pa_cons pe_int pa_nil))))) pss_nil)
      (pss_cons (ps_set (i := 4) sc__law_parted.nd rfl (.inl rfl) (pe_callTy call_int_str (by rfl) T.n_int (by decide +kernel) (pa_cons (pe_ix ix_list (pv 2) pe_int (fun _ _ => rfl)) pa_nil)))
      (pss_cons (ps_if (PW.pt (pw_or (pt_cmpR op_lt (pv 4) pe_int (nomark _)) (pw_or1 (pt_cmpR op_ne (pe_call (ok__law_gcd T) (hr.mono (by decide)) rfl T.g__law_gcd T.F__law_gcd.kp T.b__law_gcd .nil pass0 (pa_cons (pv 3) (pa_cons (pv 4) pa_nil))) pe_int (nomark _))))) (pss_one (ps_ret pe_non)) pss_nil)
      (pss_one (ps_ret (pe_tup (pa_cons (pv 3) (pa_cons (pv 4) pa_nil)))))))))))))), ?_⟩
    have hD : dash (SX.S l) = decide (l.head? = some 45) := by
      unfold dash dashL
      show (l.head? == some 45) = _
      by_cases h : l.head? = some 45
      · rw [h]
        rfl
      · rw [beq_eq_false_iff_ne.mpr h, decide_eq_false h]
    have sz := szS l
    refine q_asg (v := .bl (decide (l.head? = some 45))) (ev_is (ev_op (fun H1 e Q q => ⟨_, rfl, 1, rfl, SX.S l, rfl, line_of (by rw [SX.S_len]; omega), q H1 (Ex.refl H1)⟩) ev_c (rv_eq rfl)) (by rw [dash_cut, hD])) (fun H1 e1 => ?_)
    have bl := bare_le l
    have hcut : cutS (SX.S l) (some (if decide (l.head? = some 45) = true then 1 else 0)) none = SX.S (bareL l) := by
      unfold bareL
      by_cases h : l.head? = some 45
      · rw [if_pos (decide_eq_true h), if_pos h]
        exact cut_S (by decide)
      · rw [if_neg (by rw [decide_eq_false h]; decide), if_neg h]
        exact cut_S (by decide)
    have hpF : ∀ x, partF l = x → partF l = x := fun _ h => h
    unfold partF at kn ks
    obtain ⟨ps, hps⟩ : ∃ ps, ps = TL.spl [47] 0 [] (bareL l) := ⟨_, rfl⟩
    have sm : ∀ p ∈ ps, p.length ≤ 450 := fun p hp => by
      rw [hps] at hp
      have := spl_mem _ p hp
      omega
    have sl := spl_len (bareL l)
    have sne := spl_ne (bareL l)
    rw [← hps] at kn ks sl sne
    refine ⟨_, rfl, _, rfl, .inr ⟨_, rfl, _, rfl, SX.S l, rfl, line_of (by rw [SX.S_len]; omega), ?_⟩⟩
    rw [hcut]
    refine ⟨rfl, SX.S (bareL l), "/", rfl, rfl, rfl, line_of (by rw [SX.S_len]; omega), fun u nu => ?_⟩
    rw [show ("/" : Str) = SX.S [47] from rfl, SX.split_S (by simp) (by decide), ← hps]
    have e2 : Ex H1 (upd H1 u (.lst ((ps.map SX.S).map V.str))) := Ex.new nu
    have hu : (upd H1 u (.lst ((ps.map SX.S).map V.str))) u = some (.lst ((ps.map SX.S).map V.str)) := upd_same
    generalize upd H1 u (.lst ((ps.map SX.S).map V.str)) = H2 at e2 hu ⊢
    have e02 := e1.trans e2
    have len : ((ps.map SX.S).map V.str).length = ps.length := by rw [List.length_map, List.length_map]
    have getp : ∀ (i : Nat) (p : List Nat), ps[i]? = some p → ((ps.map SX.S).map V.str)[i]? = some (.str (SX.S p)) := fun i p h => by
      rw [List.getElem?_map, List.getElem?_map, h]
      rfl
    have evl : ∀ {σ : L2.St} {H : Hp}, Ex H2 H → σ[2]? = some (some (.ref u)) → Ev (tCB (rLenS K) (tCons (tVar 2) tNil)) σ H (.int (ps.length : Int)) := fun {σ H} e h => by
      have z := ev_len (K := K) (ta := tVar 2) (σ := σ) (ev_var h) (SqL.of (e _ _ hu))
      rw [len] at z
      exact z
    have i2 : decide (2 < ps.length) = decide ((2 : Int) < (ps.length : Int)) := decide_eq_decide.mpr (by omega)
    have fe : EvL (tLc (iList K (tVar 2)) (gName 5) tYes (tCall spFig [] E0 (tCons (tVar 5) tNil)) [5]) [some (.str (SX.S l)), some (.bl (decide (l.head? = some 45))), some (.ref u), none, none, none] H2 ((ps.map figs).map V.bl) := by
      have z := el_lcL (K := K) (σ := [some (.str (SX.S l)), some (.bl (decide (l.head? = some 45))), some (.ref u), none, none, none]) (H := H2) (tl := tVar 2) (t := tYes) (te := tCall spFig [] E0 (tCons (tVar 5) tNil)) (j := 5) (vs := [5]) (fun _ => true) (fun i => V.bl (figs (ps.getD i []))) (ev_var rfl) (SqL.of hu) (by rw [len]; omega) (fun _ => rfl) (fun i x H3 e3 hx H4 e4 Q q => q H4 (Ex.refl H4)) (fun i x H3 e3 hx _ => by
        have hi : i < ps.length := by
          have y := (List.getElem?_eq_some_iff.mp hx).1
          rw [len] at y
          exact y
        have hp : ps[i]? = some ps[i] := List.getElem?_eq_getElem hi
        have y := (getp i _ hp).symm.trans hx
        have y2 := Option.some.inj y
        subst y2
        have e : ps.getD i [] = ps[i] := by
          rw [List.getD_eq_getElem?_getD, hp]
          rfl
        rw [e]
        exact ev_call (ea_cons (ev_var rfl) ea_nil) fun H4 e4 Q q E => ⟨ps[i], rfl, sm _ (List.mem_of_getElem? hp), q⟩)
      rw [len, given_figs] at z
      exact z
    have fb : (ps.map figs).all id = ps.all figs := by
      rw [List.all_map]
      rfl
    refine q_when (b := decide (2 < ps.length) || !ps.all figs) (et_or (et_test (ev_op (evl (Ex.refl _) rfl) ev_c (fun H3 _ Q q => ⟨_, 2, rfl, rfl, (by
      show Q (.bl (decide ((2 : Int) < (ps.length : Int)))) H3
      rw [← i2]
      exact q H3 (Ex.refl H3))⟩))) (fun _ => et_not (et_B (ev_is (ev_all (bs := ps.map figs) fe) (congrArg V.bl fb))))) (fun z H3 e3 => ?_) (fun z H3 e3 => ?_)
    · refine s_ret (v := .non) ev_c (fun H4 e4 => kn ?_ H4 ((e02.trans e3).trans e4))
      rw [Bool.or_eq_true, decide_eq_true_eq, Bool.not_eq_true'] at z
      rcases z with z | z
      · exact if_pos z
      · by_cases y : 2 < ps.length
        · exact if_pos y
        · rw [if_neg y]
          exact if_pos z
    rw [Bool.or_eq_false_iff, Bool.not_eq_false'] at z
    obtain ⟨z1, z2⟩ := z
    have n2 : ¬ 2 < ps.length := of_decide_eq_false z1
    have nf : ¬ ps.all figs = false := by rw [z2]; decide
    rw [if_neg n2, if_neg nf] at kn ks
    obtain ⟨p, r, rfl⟩ : ∃ p r, ps = p :: r := by
      cases ps with
      | nil => exact absurd rfl sne
      | cons p r => exact ⟨p, r, rfl⟩
    have fp : figs p = true := List.all_eq_true.mp z2 p List.mem_cons_self
    obtain ⟨rp, lp⟩ := fig_read fp
    have szp := fig_sz fp
    have e03 := e02.trans e3
    have evI : ∀ {σ : L2.St} {H : Hp} (i : Nat) (q : List Nat), Ex H2 H → σ[2]? = some (some (.ref u)) → (p :: r)[i]? = some q → figs q = true → Ev (tCB (fun xs H Q => ∃ a n, xs = [.str a] ∧ PySem.intText? a = some n ∧ a.length ≤ 640 ∧ Q (.int n) H) (tCons (tOp (rIxL K) (tVar 2) (tC (.int (i : Int)))) tNil)) σ H (.int ((NumText.digitsVal q : Nat) : Int)) := fun {σ H} i q e h hq fq =>
      ev_cb (ea_cons (ev_op (ev_var h) ev_c (rv_ixL (SqL.of (e _ _ hu)) (atI_nat (j := i) (getp i q hq)))) ea_nil) fun H1 _ Q k => ⟨_, _, rfl, (fig_read fq).1, by rw [SX.S_len]; have := (fig_read fq).2; omega, k H1 (Ex.refl H1)⟩
    refine q_asg (evI 0 p e3 rfl rfl fp) (fun H4 e4 => ?_)
    refine q_when (b := decide (l.head? = some 45) && decide (NumText.digitsVal p = 0)) (et_and (et_B (ev_var rfl)) (fun _ => et_test (ev_is (ev_op (ev_var rfl) ev_c (rv_eq rfl)) ?_))) (fun z H5 e5 => ?_) (fun z H5 e5 => ?_)
    · refine congrArg V.bl (decide_eq_decide.mpr ⟨fun x => ?_, fun x => ?_⟩)
      · have y := V.int.inj x
        omega
      · rw [x]
        rfl
    · rw [Bool.and_eq_true, decide_eq_true_eq, decide_eq_true_eq] at z
      refine s_ret (v := .non) ev_c (fun H6 e6 => kn ?_ H6 (((e03.trans e4).trans e5).trans e6))
      exact if_pos (show l.head? = some 45 ∧ NumText.digitsVal ((p :: r).headD []) = 0 from z)
    have nz : ¬ (l.head? = some 45 ∧ NumText.digitsVal ((p :: r).headD []) = 0) := fun y => by
      rw [decide_eq_true y.1, decide_eq_true (show NumText.digitsVal p = 0 from y.2)] at z
      cases z
    rw [if_neg nz] at kn ks
    obtain ⟨t, ht⟩ : ∃ t : Int, t = (if l.head? = some 45 then -((NumText.digitsVal ((p :: r).headD []) : Nat) : Int) else ((NumText.digitsVal ((p :: r).headD []) : Nat) : Int)) := ⟨_, rfl⟩
    have ta : t.natAbs = NumText.digitsVal p := by
      rw [ht]
      show _ = NumText.digitsVal ((p :: r).headD [])
      split <;> omega
    rw [← ht] at kn ks
    refine q_ifAsg (v := .int t) (et_B (ev_var rfl)) (fun z => ?_) (fun z => ?_) (fun H6 e6 => ?_)
    · refine ev_is (ev_un (ev_var rfl) ru_neg) ?_
      rw [ht, if_pos (of_decide_eq_true z)]
      rfl
    · rw [ht, if_neg (of_decide_eq_false z)]
      rfl
    have e36 := (((e3.trans e4).trans e5).trans e6)
    have e06 := e02.trans e36
    refine q_when (b := decide ((p :: r).length = 1)) (et_test (ev_is (ev_op (evl e36 rfl) ev_c (rv_eq rfl)) ?_)) (fun z H7 e7 => ?_) (fun z H7 e7 => ?_)
    · refine congrArg V.bl (decide_eq_decide.mpr ⟨fun x => ?_, fun x => ?_⟩)
      · have y := V.int.inj x
        omega
      · rw [x]
        rfl
    · have y : (p :: r).length = 1 := of_decide_eq_true z
      rw [if_pos y] at ks
      exact ⟨_, rfl, (by show 2 ≤ sizeLine; decide), fun v hv => ks t 1 rfl _ v ((e06.trans e7).trans (Ex.new hv)) upd_same⟩
    have n1 : ¬ (p :: r).length = 1 := of_decide_eq_false z
    rw [if_neg n1] at kn ks
    obtain ⟨q, rfl⟩ : ∃ q, r = [q] := by
      match r, n1, n2 with
      | [], n1, _ => exact absurd rfl n1
      | [q], _, _ => exact ⟨q, rfl⟩
      | _ :: _ :: _, _, n2 => exact absurd (by simp) n2
    have fq : figs q = true := List.all_eq_true.mp z2 q (by simp)
    have szq := fig_sz fq
    refine q_asg (evI 1 q (e36.trans e7) rfl rfl fq) (fun H8 e8 => ?_)
    have i3 : decide (NumText.digitsVal q < 2) = decide (((NumText.digitsVal q : Nat) : Int) < 2) := decide_eq_decide.mpr (by omega)
    have i4 : V.bl (!decide (V.int ((Nat.gcd t.natAbs (((NumText.digitsVal q : Nat) : Int)).natAbs : Nat) : Int) = V.int 1)) = V.bl (!decide (Nat.gcd (NumText.digitsVal p) (NumText.digitsVal q) = 1)) := by
      refine congrArg V.bl (congrArg not (decide_eq_decide.mpr ⟨fun x => ?_, fun x => ?_⟩))
      · have y := V.int.inj x
        rw [Int.natAbs_natCast, ta] at y
        omega
      · rw [Int.natAbs_natCast, ta, x]
        rfl
    refine q_when (b := decide (NumText.digitsVal q < 2) || !decide (Nat.gcd (NumText.digitsVal p) (NumText.digitsVal q) = 1)) (et_or (et_test (ev_op (ev_var rfl) ev_c (fun H9 _ Q k => ⟨_, 2, rfl, rfl, (by
      show Q (.bl (decide (((NumText.digitsVal q : Nat) : Int) < 2))) H9
      rw [← i3]
      exact k H9 (Ex.refl H9))⟩))) (fun _ => et_test (ev_is (ev_op (ev_call (ea_cons (ev_var rfl) (ea_cons (ev_var rfl) ea_nil)) (fun H9 e9 Q k E => ⟨t, _, rfl, szq, k⟩)) ev_c (rv_ne rfl)) i4))) (fun z H9 e9 => ?_) (fun z H9 e9 => ?_)
    · refine s_ret (v := .non) ev_c (fun H10 e10 => kn ?_ H10 ((((e06.trans e7).trans e8).trans e9).trans e10))
      rw [Bool.or_eq_true, decide_eq_true_eq, Bool.not_eq_true', decide_eq_false_iff_not] at z
      exact if_pos (show NumText.digitsVal ((p :: [q]).getD 1 []) < 2 ∨ Nat.gcd (NumText.digitsVal ((p :: [q]).headD [])) (NumText.digitsVal ((p :: [q]).getD 1 [])) ≠ 1 from z)
    have nn : ¬ (NumText.digitsVal ((p :: [q]).getD 1 []) < 2 ∨ Nat.gcd (NumText.digitsVal ((p :: [q]).headD [])) (NumText.digitsVal ((p :: [q]).getD 1 [])) ≠ 1) := fun y => by
      replace y : NumText.digitsVal q < 2 ∨ Nat.gcd (NumText.digitsVal p) (NumText.digitsVal q) ≠ 1 := y
      rw [Bool.or_eq_false_iff, Bool.not_eq_false', decide_eq_true_eq] at z
      rcases y with y | y
      · exact absurd y (of_decide_eq_false z.1)
      · exact y z.2
    rw [if_neg nn] at ks
    exact ⟨_, rfl, _, rfl, (by show 2 ≤ sizeLine; decide), fun v hv => ks t _ rfl _ v ((((e06.trans e7).trans e8).trans e9).trans (Ex.new hv)) upd_same⟩
end
section
open Evl
/-- _law_refused(text) -/
def spRef : Sp := fun vs H Q _ => ∃ l : List Nat, vs = [.str (SX.S l)] ∧ (∀ c ∈ l, c < 128) ∧ l.length ≤ 450 ∧ partF l = none ∧ ∀ H', Ex H H' → Q (.bl true) H'
theorem ok__law_refused (T : Txt P K mg) : FnOk P w K mg base CX0 5 T.f__law_refused T.d__law_refused ["_law_text_here"] spRef := by
  refine T.F__law_refused.ok sc__law_refused (fun vs H Q E h => ?_) (fun cdv A outer s H vs Q E hr h => ?_)
  · obtain ⟨l, rfl, _⟩ := h
    rfl
  · obtain ⟨l, rfl, hc, hl, hn, q⟩ := h
    refine ⟨_, (pss_cons (L2N.ps_try_as (i := 1)
      (tb := fun W => tDrop (tSMethS T.C_Share (spRead T.C_Share T.C_BadShare) (WE W) (tC (.ref T.C_Share)) (tCons (tVar 0) tNil)))
      (ts := fun a cls d => tSeq (tAsg (tAndV (tCB (rIsF K T.C_BadShare a cls d) (tCons (tVar 1) (tCons (tC (.ref T.C_HornError)) tNil))) (tAndV (tCB (rIsF K T.C_BadShare a cls d) (tCons (tVar 1) (tCons (tC (.ty "ValueError")) tNil))) (tNotV (tCB (rIsF K T.C_BadShare a cls d) (tCons (tVar 1) (tCons (tC (.ref T.C_BadName)) tNil)))))) (gName 2)) (tRet (tAndV (tVar 2) (tCallS spSame (fun _ => E0) (tCons (tByF T.C_BadShare a cls d "text" (tVar 1)) (tCons (tVar 0) tNil))))))
      (Wout := fun _ _ _ _ => False) rfl rfl sc__law_refused.nd rfl rfl ⟨rfl, by decide, Or.inl T.E_BadShare.gC⟩ takes0N
      (fun W pn xe tk _ => (pss_one (ps_expr (pe_smethS (pe_glob (v := .ref T.C_Share) rfl T.g_Share rfl) T.S_Share_read (ok_Share_read T) (hr.mono (by decide)) T.b_Share_read (fun σ => L2N.passAt tk σ) (by exact (pa_cons (pv 0) pa_nil))))))
      (fun a oe cls d pn hz hf => (pss_cons (ps_set (i := 2) sc__law_refused.nd rfl (.inl rfl) (pe_and (pe_callB (call_isF T.x_BadShare hz.zc hf) (by rfl) T.n_isinstance (by decide +kernel) (pa_cons (pv 1) (pa_cons (pe_glob (v := .ref T.C_HornError) rfl T.g_HornError rfl) pa_nil))) (pe_and (pe_callB (call_isF T.x_BadShare hz.zc hf) (by rfl) T.n_isinstance (by decide +kernel) (pa_cons (pv 1) (pa_cons (pe_bltn (v := .ty "ValueError") (u := .type "ValueError") (by rfl) T.n_ValueError (by decide +kernel) rfl) pa_nil))) (pe_one (pe_not (pe_callB (call_isF T.x_BadShare hz.zc hf) (by rfl) T.n_isinstance (by decide +kernel) (pa_cons (pv 1) (pa_cons (pe_glob (v := .ref T.C_BadName) rfl T.E_BadName.gC rfl) pa_nil))))))))
      (pss_one (ps_ret (pe_and (pv 2) (pe_one (L2H.pe_callH (okH__law_same T) (L2H.RoomH.mono (room_suite hr) (by decide)) (hot_suite hz hf) rfl T.g__law_same T.F__law_same.kp T.b__law_same pass0H (pa_cons (pe_byF T.E_BadShare T.o_BadShare hz.zc hf (pv 1)) (pa_cons (pv 0) pa_nil))))))))))
      (pss_one (ps_ret pe_bl))), ?_⟩
    refine ⟨rfl, _, rfl, l, rfl, hc, hl, fun t b hs => absurd (hn.symm.trans hs) (fun z => nomatch z), fun _ H1 d e1 hd => ?_⟩
    refine ⟨true, T.E_BadShare.te, fun _ a na => ?_, fun q => Bool.noConfusion q⟩
    obtain ⟨b1, k1, rfl⟩ := T.k_BadShare_HornError
    obtain ⟨b2, k2, rfl⟩ := T.k_BadShare_ValueError
    obtain ⟨b3, k3, rfl⟩ := T.k_BadShare_BadName
    have hx : ∀ dx, some d = some dx → ∃ fs, H1 dx = some (.xd fs) := fun dx e => ⟨[("text", .str (SX.S l))], (Option.some.inj e) ▸ hd⟩
    refine ⟨_, rfl, rfl, .ref T.C_HornError, .ref T.C_HornError, _, rfl, fun u e => e, hx, k1, _, rfl, iteT ?_⟩
    refine ⟨_, rfl, rfl, .ty "ValueError", .type "ValueError", _, rfl, fun u e => e, hx, k2, _, rfl, iteT ?_⟩
    refine ⟨_, rfl, rfl, .ref T.C_BadName, .ref T.C_BadName, _, rfl, fun u e => e, hx, k3, _, rfl, ?_⟩
    refine ⟨_, rfl, _, rfl, iteT ?_⟩
    refine ⟨_, rfl, rfl, rfl, d, _, rfl, hd, _, rfl, .str (SX.S l), .str (SX.S l), rfl, rfl, rfl, fun H2 e2 => ?_⟩
    have z2 := q H2 (e1.trans e2)
    rw [show decide (V.str (SX.S l) = V.str (SX.S l)) = true from decide_eq_true rfl]
    exact z2
theorem Txt8.len {m : Nat} {x : Str} (h : Txt8 m x) : x.length ≤ m := h.1
/-- _law_changed(source, text) -/
def spChg : Sp := fun vs H Q _ => ∃ (a : Addr) (z : Str), vs = [.ref a, .str z] ∧ Src H a ∧ Txt8 150 z ∧ ∀ H' w, Txt8 301 w → Src H' a → But a H H' → Q (.str w) H'
theorem ok__law_changed (T : Txt P K mg) : FnOk P w K mg base CX0 3 T.f__law_changed T.d__law_changed ["_law_source_here", "_law_text_here"] spChg := by
  refine T.F__law_changed.ok sc__law_changed (fun vs H Q E h => ?_) (fun cdv A outer s H vs Q E hr h => ?_)
  · obtain ⟨a, z, rfl, _⟩ := h
    rfl
  · obtain ⟨a, z, rfl, S, tz, q⟩ := h
    have lz := tz.len
    refine ⟨_, (pss_cons (ps_set (i := 2) sc__law_changed.nd rfl (.inl rfl) (pe_call (ok__law_take T) (hr.mono (by decide)) rfl T.g__law_take T.F__law_take.kp T.b__law_take .nil pass0 (pa_cons (pv 0) (pa_cons (pe_op op_add (pe_callB call_len_str (by rfl) T.n_len PySem.boot_len (pa_cons (pv 1) pa_nil)) pe_int) pa_nil))))
      (pss_cons (ps_set (i := 3) sc__law_changed.nd rfl (.inl rfl) (pe_item_str pe_str (pe_call (ok__law_take T) (hr.mono (by decide)) rfl T.g__law_take T.F__law_take.kp T.b__law_take .nil pass0 (pa_cons (pv 0) (pa_cons pe_int pa_nil))) (fun _ _ => rfl)))
      (Evl.pss_cut (ps_if (pt_cmpR op_eq (pe_call (ok__law_take T) (hr.mono (by decide)) rfl T.g__law_take T.F__law_take.kp T.b__law_take .nil pass0 (pa_cons (pv 0) (pa_cons pe_int pa_nil))) pe_int (nomark _)) (pss_one (ps_set (i := 3) sc__law_changed.nd rfl (.inl rfl) (pe_call (ok__law_sign T) (hr.mono (by decide)) rfl T.g__law_sign T.F__law_sign.kp T.b__law_sign .nil pass0 (pa_cons (pv 0) pa_nil)))) pss_nil)
      (pss_cons (ps_set (i := 4) sc__law_changed.nd rfl (.inl rfl) (pe_call (ok__law_take T) (hr.mono (by decide)) rfl T.g__law_take T.F__law_take.kp T.b__law_take .nil pass0 (pa_cons (pv 0) (pa_cons pe_int pa_nil))))
      (pss_cons (ps_if (pt_cmpR op_eq (pv 4) pe_int (nomark _)) (pss_one (ps_ret (pe_op op_add_str (pe_op op_add_str (pe_slice sl_str (pv 1) po_none (po_some (pv 2))) (pv 3)) (pe_slice sl_str (pv 1) (po_some (pe_op op_add (pv 2) pe_int)) po_none)))) pss_nil)
      (pss_cons (ps_if (pt_cmpR op_eq (pv 4) pe_int (nomark _)) (pss_one (ps_ret (pe_op op_add_str (pe_op op_add_str (pe_slice sl_str (pv 1) po_none (po_some (pv 2))) (pv 3)) (pe_slice sl_str (pv 1) (po_some (pv 2)) po_none)))) pss_nil)
      (pss_cons (ps_if (pt_cmpR op_eq (pv 4) pe_int (nomark _)) (pss_one (ps_ret (pe_slice sl_str (pv 1) po_none (po_some (pv 2))))) pss_nil)
      (pss_one (ps_ret (pe_slice sl_str (pv 1) (po_some (pv 2)) po_none)))))))))), ?_⟩
    refine ⟨.ref a, rfl, _, rfl, _, rfl, line_of (by omega), _, _, rfl, rfl, a, _, rfl, S, (by omega), (by omega), fun H1 at_ t0 t1 S1 B1 => ?_⟩
    refine ⟨.ref a, rfl, a, 12, rfl, S1, by decide, by decide, fun H2 r r0 r1 S2 B2 => ?_⟩
    obtain ⟨c, hc, hl, tc⟩ := item_of (z := "0123456789/-") r0 r1 (by decide) (by decide)
    refine ⟨_, _, c, rfl, rfl, r0, by omega, hl, hc, ?_⟩
    have B02 := B1.trans B2
    refine ⟨fun σ H' => ∃ sg : Str, σ = [some (.ref a), some (.str z), some (.int at_), some (.str sg), none] ∧ Txt8 1 sg ∧ Src H' a ∧ But a H H', ?_, ?_⟩
    · refine ⟨.ref a, rfl, a, 2, rfl, S2, by decide, by decide, fun H3 d d0 d1 S3 B3 => ⟨rfl, _, rfl, ite2 (fun z => ?_) (fun z => ?_)⟩⟩
      · exact ⟨.ref a, rfl, a, rfl, S3, fun H4 sg tsg S4 B4 => ⟨sg, rfl, tsg, S4, (B02.trans B3).trans B4⟩⟩
      · exact ⟨_, rfl, tc, S3, B02.trans B3⟩
    rintro σ' H' ⟨sg, rfl, tsg, S3, B3⟩
    refine ⟨.ref a, rfl, a, 4, rfl, S3, by decide, by decide, fun H4 st s0 s1 S4 B4 => ?_⟩
    have B04 := B3.trans B4
    have l2 := tsg.len
    have cu := fun lo hi => (tz.cut lo hi).len
    refine ⟨_, rfl, rfl, _, rfl, ite2 (fun e => ?_) (fun e => ?_)⟩
    · have tA := tz.cut none (some at_)
      have tB := tz.cut (some (at_ + 1)) none
      have l1 := tA.len
      have l3 := tB.len
      have l4 := (tA.app tsg).len
      exact ⟨_, rfl, _, rfl, _, rfl, _, rfl, line_of (by omega), _, rfl, _, _, rfl, rfl, line_of (by omega), _, rfl, _, rfl, _, _, rfl, rfl, _, rfl, _, rfl, line_of (by omega), _, _, rfl, rfl, line_of (by omega), q _ _ (((tA.app tsg).app tB).mono (by decide)) S4 B04⟩
    refine ⟨_, rfl, rfl, _, rfl, ite2 (fun e => ?_) (fun e => ?_)⟩
    · have tA := tz.cut none (some at_)
      have tB := tz.cut (some at_) none
      have l1 := tA.len
      have l3 := tB.len
      have l4 := (tA.app tsg).len
      exact ⟨_, rfl, _, rfl, _, rfl, _, rfl, line_of (by omega), _, rfl, _, _, rfl, rfl, line_of (by omega), _, rfl, _, rfl, _, rfl, _, rfl, line_of (by omega), _, _, rfl, rfl, line_of (by omega), q _ _ (((tA.app tsg).app tB).mono (by decide)) S4 B04⟩
    refine ⟨_, rfl, rfl, _, rfl, ite2 (fun e => ?_) (fun e => ?_)⟩
    · exact ⟨_, rfl, _, rfl, _, rfl, _, rfl, line_of (by omega), q _ _ ((tz.cut none (some at_)).mono (by decide)) S4 B04⟩
    · exact ⟨_, rfl, _, rfl, _, rfl, _, rfl, line_of (by omega), q _ _ ((tz.cut (some at_) none).mono (by decide)) S4 B04⟩
theorem txt8_S {n : Nat} {l : List Nat} (h : l.length ≤ n) (hc : ∀ c ∈ l, c < 128) : Txt8 n (SX.S l) := ⟨by rw [szS]; exact h, hc⟩
theorem intL_codes (t : Int) : ∀ c ∈ intL t, c < 128 := fun c hc => by
  unfold intL at hc
  have key : ∀ n, ∀ c ∈ TL.numL n, c < 128 := fun n c h => by
    have := TL.numL_digits n c h
    omega
  split at hc
  · rcases List.mem_cons.mp hc with h | h
    · omega
    · exact key _ c h
  · exact key _ c hc
theorem txt8_int {t : Int} {k : Nat} (hk : 0 < k) (h : t.natAbs < 10 ^ k) : Txt8 (k + 1) (Str.ofString (toString t)) := by
  rw [str_int]
  refine txt8_S ?_ (intL_codes t)
  have z := TL.numL_len hk h
  unfold intL
  split
  · simp only [List.length_cons]
    omega
  · omega
theorem replS_mem (y z : List Nat) : ∀ (l : List Nat) (s : Nat) (c : Nat), c ∈ StrLaws.replS y z s l → c ∈ l ∨ c ∈ z
  | [], s, c, h => by
    cases s <;> (rw [StrLaws.replS] at h; cases h)
  | d :: r, 0, c, h => by
    rw [StrLaws.replS] at h
    split at h
    · rcases List.mem_append.mp h with h | h
      · exact .inr h
      · rcases replS_mem y z r _ c h with h | h
        · exact .inl (List.mem_cons_of_mem _ h)
        · exact .inr h
    · rcases List.mem_cons.mp h with h | h
      · exact .inl (by rw [h]; exact List.mem_cons_self)
      · rcases replS_mem y z r _ c h with h | h
        · exact .inl (List.mem_cons_of_mem _ h)
        · exact .inr h
  | d :: r, s + 1, c, h => by
    rw [StrLaws.replS] at h
    rcases replS_mem y z r _ c h with h | h
    · exact .inl (List.mem_cons_of_mem _ h)
    · exact .inr h
theorem Txt8.rep {m : Nat} {x : Str} (h : Txt8 m x) : Txt8 (m + (m + 1) * 3) (Txt.replace x "/" " / ") := by
  refine ⟨?_, fun c hc => ?_⟩
  · have z := TK.replace_len x "/" " / "
    have l3 : (" / " : Str).length = 3 := rfl
    rw [l3] at z
    have lx := h.len
    have y : (x.length + 1) * 3 ≤ (m + 1) * 3 := Nat.mul_le_mul_right _ (by omega)
    show (Txt.replace x "/" " / ").length ≤ _
    omega
  · rw [StrLaws.replace_list (by decide)] at hc
    rcases replS_mem _ _ _ _ c hc with z | z
    · exact h.2 c z
    · have e : (" / " : Str).cps.toList = [32, 47, 32] := rfl
      rw [e] at z
      simp at z
      omega
theorem pick5 {m : Nat} {xs : List Str} {r : Int} (hx : ∀ x ∈ xs, Txt8 m x) (h0 : 0 ≤ r) (h1 : r < (xs.length : Int)) : ∃ ds : Str, (xs.map V.str)[r.toNat]? = some (.str ds) ∧ Txt8 m ds := by
  have h : r.toNat < xs.length := by omega
  exact ⟨xs[r.toNat], by rw [List.getElem?_map, List.getElem?_eq_getElem h]; rfl, hx _ (List.getElem_mem h)⟩
/-- _law_text(source) -/
def spTxt6 : Sp := fun vs H Q _ => ∃ a : Addr, vs = [.ref a] ∧ Src H a ∧ ∀ H' z, Txt8 450 z → Src H' a → But a H H' → Q (.str z) H'
theorem p59 : (10 : Int) ^ (59 : Int).toNat = ((10 ^ 59 : Nat) : Int) := by decide +kernel
theorem p9 : (10 : Int) ^ (9 : Int).toNat = 1000000000 := by decide
theorem ok__law_text (T : Txt P K mg) : FnOk P w K mg base CX0 4 T.f__law_text T.d__law_text ["_law_source_here"] spTxt6 := by
  refine T.F__law_text.ok sc__law_text (fun vs H Q E h => ?_) (fun cdv A outer s H vs Q E hr h => ?_)
  · obtain ⟨a, rfl, _⟩ := h
    rfl
  · obtain ⟨a, rfl, S, q⟩ := h
    refine ⟨_, (pss_cons (ps_set (i := 1) sc__law_text.nd rfl (.inl rfl) (pe_call (ok__law_take T) (hr.mono (by decide)) rfl T.g__law_take T.F__law_take.kp T.b__law_take .nil pass0 (pa_cons (pv 0) (pa_cons pe_int pa_nil))))
      (pss_cons (ps_set (i := 2) sc__law_text.nd rfl (.inl rfl) (pe_call (ok__law_number T) (hr.mono (by decide)) rfl T.g__law_number T.F__law_number.kp T.b__law_number .nil pass0 (pa_cons (pv 0) (pa_cons pe_int pa_nil))))
      (pss_cons (ps_set (i := 3) sc__law_text.nd rfl (.inl rfl) (pe_op op_add pe_int (pe_callB call_abs (by rfl) T.n_abs (by decide +kernel) (pa_cons (pe_call (ok__law_number T) (hr.mono (by decide)) rfl T.g__law_number T.F__law_number.kp T.b__law_number .nil pass0 (pa_cons (pv 0) (pa_cons pe_int pa_nil))) pa_nil))))
      (pss_cons (ps_set (i := 4) sc__law_text.nd rfl (.inl rfl) (pe_call (ok__law_share_text T) (hr.mono (by decide)) rfl T.g__law_share_text T.F__law_share_text.kp T.b__law_share_text .nil pass0 (pa_cons (pv 2) (pa_cons (pv 3) pa_nil))))
      (pss_cons (ps_set (i := 5) sc__law_text.nd rfl (.inl rfl) (pe_call (ok__law_take T) (hr.mono (by decide)) rfl T.g__law_take T.F__law_take.kp T.b__law_take .nil pass0 (pa_cons (pv 0) (pa_cons pe_int pa_nil))))
      (pss_cons (ps_if (pt_cmpR op_eq (pv 1) pe_int (nomark _)) (pss_one (ps_ret (pe_op op_add_str (pe_op op_add_str (pe_callTy call_str_int (by rfl) T.n_str (by decide +kernel) (pa_cons (pe_op op_mulW (pv 2) (pe_op op_add (pv 5) pe_int)) pa_nil)) pe_str) (pe_callTy call_str_int (by rfl) T.n_str (by decide +kernel) (pa_cons (pe_op op_mulW (pv 3) (pe_op op_add (pv 5) pe_int)) pa_nil))))) pss_nil)
      (pss_cons (ps_if (pt_cmpR op_eq (pv 1) pe_int (nomark _)) (pss_one (ps_ret (pe_op op_add_str (pe_ix ix_list (pe_lst (pa_cons pe_str (pa_cons pe_str (pa_cons pe_str (pa_cons pe_str (pa_cons pe_str pa_nil)))))) (pv 5) (fun _ _ => rfl)) (pv 4)))) pss_nil)
      (pss_cons (ps_if (pt_cmpR op_eq (pv 1) pe_int (nomark _)) (pss_one (ps_ret (pe_op op_add_str (pe_op op_add_str (pe_callTy call_str_int (by rfl) T.n_str (by decide +kernel) (pa_cons (pv 2) pa_nil)) pe_str) (pe_ix ix_list (pe_lst (pa_cons pe_str (pa_cons pe_str (pa_cons pe_str (pa_cons pe_str (pa_cons pe_str pa_nil)))))) (pv 5) (fun _ _ => rfl))))) pss_nil)
      (pss_cons (ps_if (pt_cmpR op_eq (pv 1) pe_int (nomark _)) (pss_one (ps_ret (pe_ix ix_list (pe_lst (pa_catT op_add_str (pv 4) (pat_cons (CwR.PET.of (pe_op op_add_str (pv 4) pe_str)) (pat_cons (CwR.PET.of (pe_op op_add_str (pv 4) pe_str)) (pat_cons (CwR.pet_replC (pv 4)) (pat_cons (CwR.PET.of (pe_op op_add_str (pv 4) pe_str)) pat_nil)))))) (pv 5) (fun _ _ => rfl)))) pss_nil)
      (pss_cons (ps_if (PW.pt (pw_or (pt_cmpR op_eq (pv 1) pe_int (nomark _)) (pw_or1 (pt_cmpR op_eq (pv 1) pe_int (nomark _))))) (pss_cons (ps_set (i := 6) sc__law_text.nd rfl (.inl rfl) (pe_op op_add (pe_op op_pow pe_int pe_int) (pe_call (ok__law_take T) (hr.mono (by decide)) rfl T.g__law_take T.F__law_take.kp T.b__law_take .nil pass0 (pa_cons (pv 0) (pa_cons (pe_op op_pow pe_int pe_int) pa_nil)))))
      (Evl.pss_cut (ps_if (pt_cmpR op_eq (pe_call (ok__law_take T) (hr.mono (by decide)) rfl T.g__law_take T.F__law_take.kp T.b__law_take .nil pass0 (pa_cons (pv 0) (pa_cons pe_int pa_nil))) pe_int (nomark _)) (pss_one (ps_set (i := 6) sc__law_text.nd rfl (.inl rfl) (pe_op op_add (pe_op op_mul pe_int (pv 6)) pe_int))) pss_nil)
      (pss_one (ps_ret (pe_op op_add_str (pe_ix ix_list (pe_lst (pa_cons pe_str (pa_cons pe_str (pa_cons pe_str (pa_cons pe_str (pa_cons pe_str pa_nil)))))) (pv 5) (fun _ _ => rfl)) (pe_callTy call_str_int (by rfl) T.n_str (by decide +kernel) (pa_cons (pv 6) pa_nil))))))) pss_nil)
      (pss_cons (ps_if (PW.pt (pw_and (pt_cmpR op_gt (pv 1) pe_int (nomark _)) (pw_and1 (pt_cmpR op_lt (pv 1) pe_int (nomark _))))) (pss_one (ps_ret (pe_call (ok__law_changed T) (hr.mono (by decide)) rfl T.g__law_changed T.F__law_changed.kp T.b__law_changed .nil pass0 (pa_cons (pv 0) (pa_cons (pv 4) pa_nil))))) pss_nil)
      (pss_one (ps_ret (pv 4)))))))))))))), ?_⟩
    refine ⟨.ref a, rfl, a, 12, rfl, S, by decide, by decide, fun H1 st s0 s1 S1 B1 => ?_⟩
    refine ⟨.ref a, rfl, a, 5, rfl, S1, by decide, by decide, fun H2 tp ht S2 B2 => ?_⟩
    refine ⟨.ref a, rfl, a, 5, rfl, S2, by decide, by decide, fun H3 b0 hb S3 B3 => ⟨b0, rfl, _, _, rfl, rfl, ?_⟩⟩
    rw [absI]
    have ht' : tp.natAbs < 10 ^ 51 := ht
    have hb' : b0.natAbs < 10 ^ 51 := hb
    obtain ⟨bt, hbt⟩ : ∃ bt : Int, bt = 1 + (b0.natAbs : Int) := ⟨_, rfl⟩
    have b1 : bt.natAbs < 10 ^ 52 := by
      have z : (10 ^ 51 + 1 : Nat) < 10 ^ 52 := by decide +kernel
      omega
    have bn : bt ≠ 0 := by omega
    dsimp only
    rw [← hbt]
    have szt : Sz tp := sz_small (Nat.lt_trans ht' (by decide +kernel))
    have szb : Sz bt := sz_small (Nat.lt_trans b1 (by decide +kernel))
    refine ⟨_, rfl, _, rfl, tp, bt, rfl, bn, szt, szb, fun H4 e4 => ?_⟩
    have S4 := S3.keep (fun b o h => e4 b o h)
    have B4 : But a H H4 := fun b o n h => e4 b o (((B1.trans B2).trans B3) b o n h)
    -- the share's text
    have tT : Txt8 52 (Str.ofString (toString (lowT tp bt))) := txt8_int (k := 51) (by decide) (Nat.lt_of_le_of_lt (lowT_le bn) ht')
    have tB : Txt8 53 (Str.ofString (toString (lowB tp bt))) := txt8_int (k := 52) (by decide) (Nat.lt_of_le_of_lt (lowB_le bn) b1)
    have tz : Txt8 106 (txtS (lowT tp bt) (lowB tp bt)) := by
      unfold txtS
      split
      · exact tT.mono (by decide)
      · exact (tT.app (show Txt8 1 "/" from ⟨by decide, by decide⟩)).app tB
    generalize txtS (lowT tp bt) (lowB tp bt) = z at tz ⊢
    have lz := tz.len
    refine ⟨.ref a, rfl, a, 5, rfl, S4, by decide, by decide, fun H5 ch c0 c1 S5 B5 => ?_⟩
    have B05 := B4.trans B5
    obtain ⟨o5, ho5⟩ := S5.some
    have put : ∀ {p : Addr} {o : HO} (w : Str), H5 p = none → Txt8 450 w → Q (.str w) (upd H5 p o) := fun {p o} w hp tw => q _ _ tw (S5.new hp) (B05.new ho5 hp)
    have l1 : ("/" : Str).length = 1 := rfl
    refine ⟨_, rfl, rfl, _, rfl, ite2 (fun e => ?_) (fun e => ?_)⟩
    · have m1 : (tp * (ch + 2)).natAbs < 10 ^ 52 := by
        rw [Int.natAbs_mul]
        exact Nat.lt_of_le_of_lt (Nat.mul_le_mul (Nat.le_of_lt ht') (show (ch + 2).natAbs ≤ 6 by omega)) (by decide +kernel)
      have m2 : (bt * (ch + 2)).natAbs < 10 ^ 53 := by
        rw [Int.natAbs_mul]
        exact Nat.lt_of_le_of_lt (Nat.mul_le_mul (Nat.le_of_lt b1) (show (ch + 2).natAbs ≤ 6 by omega)) (by decide +kernel)
      have t1 := txt8_int (k := 52) (by decide) m1
      have t2 := txt8_int (k := 53) (by decide) m2
      have g1 := t1.len
      have g2 := t2.len
      have z1 : Sz (tp * (ch + 2)) := sz_small (Nat.lt_trans m1 (by decide +kernel))
      have z2 : Sz (bt * (ch + 2)) := sz_small (Nat.lt_trans m2 (by decide +kernel))
      have c6 : (ch + 2).natAbs < 2 ^ 64 := Nat.lt_of_le_of_lt (show (ch + 2).natAbs ≤ 6 by omega) (by decide)
      refine ⟨_, rfl, _, rfl, _, _, rfl, rfl, _, _, rfl, rfl, wide_mul (a := 200) (b := 64) (Nat.lt_trans ht' (by decide +kernel)) c6 (by decide) (by decide) (by decide), _, rfl, z1.log, _, _, rfl, rfl, line_of (by omega), ?_⟩
      refine ⟨_, rfl, _, rfl, _, _, rfl, rfl, _, _, rfl, rfl, wide_mul (a := 200) (b := 64) (Nat.lt_trans b1 (by decide +kernel)) c6 (by decide) (by decide) (by decide), _, rfl, z2.log, _, _, rfl, rfl, line_of (by rw [Str.length_append]; omega), ?_⟩
      exact q _ _ (((t1.app (show Txt8 1 "/" from ⟨by decide, by decide⟩)).app t2).mono (by decide)) S5 B05
    refine ⟨_, rfl, rfl, _, rfl, ite2 (fun e => ?_) (fun e => ?_)⟩
    · obtain ⟨ds, hds, td⟩ := pick5 (m := 2) (xs := ["0", "+", "-", "00", "-0"]) (r := ch) (by intro x hx; simp at hx; rcases hx with rfl | rfl | rfl | rfl | rfl <;> exact ⟨by decide, by decide⟩) c0 (by show ch < 5; exact c1)
      have ld := td.len
      refine ⟨(by show 5 ≤ sizeLine; decide), fun p hp => ⟨_, rfl, p, _, ch, _, rfl, rfl, SqL.of upd_same, at_of (by omega) hds, _, rfl, _, _, rfl, rfl, line_of (by omega), ?_⟩⟩
      exact put _ hp ((td.app tz).mono (by decide))
    refine ⟨_, rfl, rfl, _, rfl, ite2 (fun e => ?_) (fun e => ?_)⟩
    · obtain ⟨ds, hds, td⟩ := pick5 (m := 2) (xs := ["0", "1", "-3", "", "07"]) (r := ch) (by intro x hx; simp at hx; rcases hx with rfl | rfl | rfl | rfl | rfl <;> exact ⟨by decide, by decide⟩) c0 (by show ch < 5; exact c1)
      have ld := td.len
      have t1 := txt8_int (k := 51) (by decide) ht'
      have g1 := t1.len
      refine ⟨_, rfl, _, rfl, szt.log, _, _, rfl, rfl, line_of (by omega), ?_⟩
      refine ⟨(by show 5 ≤ sizeLine; decide), fun p hp => ⟨_, rfl, p, _, ch, _, rfl, rfl, SqL.of upd_same, at_of (by omega) hds, _, _, rfl, rfl, line_of (by rw [Str.length_append]; omega), ?_⟩⟩
      exact put _ hp (((t1.app (show Txt8 1 "/" from ⟨by decide, by decide⟩)).app td).mono (by decide))
    refine ⟨_, rfl, rfl, _, rfl, ite2 (fun e => ?_) (fun e => ?_)⟩
    · have tr := tz.rep
      have t1 := (show Txt8 1 " " from ⟨by decide, by decide⟩).app tz
      have t2 := tz.app (show Txt8 1 " " from ⟨by decide, by decide⟩)
      have t3 := tz.app (show Txt8 1 "\n" from ⟨by decide, by decide⟩)
      have t5 := tz.app (show Txt8 1 "/" from ⟨by decide, by decide⟩)
      obtain ⟨ds, hds, td⟩ := pick5 (m := 450) (xs := [" " ++ z, z ++ " ", z ++ "\n", Txt.replace z "/" " / ", z ++ "/"]) (r := ch) (by
        intro x hx
        simp only [List.mem_cons, List.mem_nil_iff, or_false] at hx
        rcases hx with rfl | rfl | rfl | rfl | rfl
        · exact t1.mono (by decide)
        · exact t2.mono (by decide)
        · exact t3.mono (by decide)
        · exact tr.mono (by decide)
        · exact t5.mono (by decide)) c0 (by show ch < 5; exact c1)
      have s1 : (" " : Str).length = 1 := rfl
      have s2 : ("\n" : Str).length = 1 := rfl
      have s3 : (" / " : Str).length = 3 := rfl
      refine ⟨_, rfl, _, _, rfl, rfl, line_of (by omega), _, rfl, _, _, rfl, rfl, line_of (by omega), _, rfl, _, _, rfl, rfl, line_of (by omega), _, rfl, _, rfl, (by rw [s3]; omega), _, rfl, _, _, rfl, rfl, line_of (by omega), (by show 5 ≤ sizeLine; decide), fun p hp => ⟨_, rfl, p, _, ch, _, rfl, rfl, SqL.of upd_same, at_of (by omega) hds, ?_⟩⟩
      exact put _ hp td
    refine q_when (b := decide (st = 5) || decide (st = 6)) (et_or (et_test (ev_is (ev_op (ev_var rfl) ev_c (rv_eq rfl)) (congrArg V.bl (decide_eq_decide.mpr ⟨fun x => V.int.inj x, fun x => congrArg V.int x⟩)))) (fun _ => et_test (ev_is (ev_op (ev_var rfl) ev_c (rv_eq rfl)) (congrArg V.bl (decide_eq_decide.mpr ⟨fun x => V.int.inj x, fun x => congrArg V.int x⟩))))) (fun e H6 e6 => ?_) (fun e H6 e6 => ?_)
    · have S6 := S5.keep (fun b o h => e6 b o h)
      have B06 : But a H H6 := fun b o n h => e6 b o (B05 b o n h)
      refine ⟨_, _, rfl, rfl, ⟨by decide, by decide, by decide⟩, .ref a, rfl, _, _, rfl, rfl, ⟨by decide, by decide, by decide⟩, a, _, rfl, S6, by decide, by decide, fun H7 y y0 y1 S7 B7 => ⟨_, _, rfl, rfl, ?_⟩⟩
      rw [p9] at y1
      rw [p59]
      have big : ∃ g : Int, g = ((10 ^ 59 : Nat) : Int) + y := ⟨_, rfl⟩
      obtain ⟨g, hg⟩ := big
      dsimp only
      rw [← hg]
      have n59 : (10 ^ 59 : Nat) = 100000000000000000000000000000000000000000000000000000000000 := by decide +kernel
      have gb : g.natAbs < 10 ^ 60 := by
        have n60 : (10 ^ 60 : Nat) = 1000000000000000000000000000000000000000000000000000000000000 := by decide +kernel
        rw [n59] at hg
        rw [n60]
        omega
      refine ⟨fun σ H' => ∃ v : Int, σ = [some (.ref a), some (.int st), some (.int tp), some (.int bt), some (.str z), some (.int ch), some (.int v)] ∧ v.natAbs < 10 ^ 62 ∧ Src H' a ∧ But a H H', ?_, ?_⟩
      · refine ⟨.ref a, rfl, a, 2, rfl, S7, by decide, by decide, fun H8 d d0 d1 S8 B8 => ⟨rfl, _, rfl, ite2 (fun z => ?_) (fun z => ?_)⟩⟩
        · refine ⟨_, rfl, _, _, rfl, rfl, .inl ⟨by decide, by decide⟩, _, _, rfl, rfl, _, rfl, ?_, S8, (B06.trans B7).trans B8⟩
          have n62 : (10 ^ 62 : Nat) = 100 * 10 ^ 60 := by decide +kernel
          have z1 : (1 : Nat) ≤ 10 ^ 60 := by decide +kernel
          omega
        · exact ⟨_, rfl, Nat.lt_trans gb (by decide +kernel), S8, (B06.trans B7).trans B8⟩
      rintro σ' H8 ⟨v, rfl, hv, S8, B8⟩
      obtain ⟨ds, hds, td⟩ := pick5 (m := 3) (xs := ["", "1/", "-", "-1/", "2/"]) (r := ch) (by intro x hx; simp at hx; rcases hx with rfl | rfl | rfl | rfl | rfl <;> exact ⟨by decide, by decide⟩) c0 (by show ch < 5; exact c1)
      have ld := td.len
      have t1 := txt8_int (k := 62) (by decide) hv
      have g1 := t1.len
      have szv : Sz v := sz_small (Nat.lt_trans hv (by decide +kernel))
      obtain ⟨o8, ho8⟩ := S8.some
      refine ⟨(by show 5 ≤ sizeLine; decide), fun p hp => ⟨_, rfl, p, _, ch, _, rfl, rfl, SqL.of upd_same, at_of (by omega) hds, _, rfl, _, rfl, szv.log, _, _, rfl, rfl, line_of (by omega), ?_⟩⟩
      exact q _ _ ((td.app t1).mono (by decide)) (S8.new hp) (B8.new ho8 hp)
    have S6 := S5.keep (fun b o h => e6 b o h)
    have B06 : But a H H6 := fun b o n h => e6 b o (B05 b o n h)
    refine q_when (b := decide (6 < st) && decide (st < 11)) (et_and (et_test (ev_op (ev_var rfl) ev_c (fun H1 _ Q q => ⟨_, _, rfl, rfl, q H1 (Ex.refl H1)⟩))) (fun _ => et_test (ev_op (ev_var rfl) ev_c (fun H1 _ Q q => ⟨_, _, rfl, rfl, q H1 (Ex.refl H1)⟩)))) (fun e H7 e7 => ?_) (fun e H7 e7 => ?_)
    · have S7 := S6.keep (fun b o h => e7 b o h)
      have B07 : But a H H7 := fun b o n h => e7 b o (B06 b o n h)
      exact ⟨.ref a, rfl, _, rfl, a, z, rfl, S7, tz.mono (by decide), fun H8 w tw S8 B8 => q _ _ (tw.mono (by decide)) S8 (B07.trans B8)⟩
    · have S7 := S6.keep (fun b o h => e7 b o h)
      have B07 : But a H H7 := fun b o n h => e7 b o (B06 b o n h)
      exact ⟨_, rfl, q _ _ (tz.mono (by decide)) S7 B07⟩
end
section
open Evl
theorem ok_law (T : Txt P K mg) : FnOk P w K mg base CX0 6 T.f_law T.d_law ["_law_script"] (spLaw K) := by
  refine T.F_law.ok sc_law (fun vs H Q E h => ?_) (fun cdv A outer s H vs Q E hr h => ?_)
  · obtain ⟨a, ns, rfl, _⟩ := h
    rfl
  · obtain ⟨a, ns, rfl, hS, hl, k⟩ := h
    refine ⟨_, (pss_cons (ps_set (i := 1) sc_law.nd rfl (.inl rfl) (pe_call (ok__law_source T) (hr.mono (by decide)) rfl T.g__law_source T.F__law_source.kp T.b__law_source .nil pass0 (pa_cons (pv 0) pa_nil)))
      (pss_cons (ps_for PassesOwn.never rfl (pi_range1 rfl T.n_range (pa_cons pe_int pa_nil)) (pg_name (i := 2) sc_law.nd rfl (.inl rfl)) (pss_cons (ps_set (i := 3) sc_law.nd rfl (.inl rfl) (pe_call (ok__law_text T) (hr.mono (by decide)) rfl T.g__law_text T.F__law_text.kp T.b__law_text .nil pass0 (pa_cons (pv 1) pa_nil)))
      (pss_cons (ps_set (i := 4) sc_law.nd rfl (.inl rfl) (pe_call (ok__law_parted T) (hr.mono (by decide)) rfl T.g__law_parted T.F__law_parted.kp T.b__law_parted .nil pass0 (pa_cons (pv 3) pa_nil)))
      (pss_one (ps_if (pt_cmpR op_isN (pv 4) pe_non (nomark _)) (pss_one (ps_if (pt_not (pt_val (pe_call (ok__law_refused T) (hr.mono (by decide)) rfl T.g__law_refused T.F__law_refused.kp T.b__law_refused .nil pass0 (pa_cons (pv 3) pa_nil)))) (pss_one (ps_ret pe_bl)) pss_nil)) (pss_cons (ps_set (i := 5) sc_law.nd rfl (.inl rfl) (pe_smeth (E := E0) (pe_glob (v := .ref T.C_Share) rfl T.g_Share rfl) T.S_Share_read (ok_Share_read T) (hr.mono (by decide)) T.b_Share_read passN (pa_cons (pv 3) pa_nil)))
      (pss_one (ps_if (PW.pt (pw_or (pt_not (pt_val (pe_call (ok__law_is_share T) (hr.mono (by decide)) rfl T.g__law_is_share T.F__law_is_share.kp T.b__law_is_share .nil pass0 (pa_cons (pv 5) (pa_cons (pe_ix ix_tup (pv 4) pe_int (fun _ _ => rfl)) (pa_cons (pe_ix ix_tup (pv 4) pe_int (fun _ _ => rfl)) pa_nil)))))) (pw_or1 (pt_not (pt_val (pe_call (ok__law_same T) (hr.mono (by decide)) rfl T.g__law_same T.F__law_same.kp T.b__law_same .nil pass0 (pa_cons (pe_callTy (call_strO T.m_Share_str T.i_Share_str (ok_Share_str T) (hr.mono (by decide)) T.b_Share_str pass0) (by rfl) T.n_str (by decide +kernel) (pa_cons (pv 5) pa_nil)) (pa_cons (pv 3) pa_nil)))))))) (pss_one (ps_ret pe_bl)) pss_nil))))))))
      (pss_one (ps_ret pe_bl)))), ?_⟩
    refine ⟨_, rfl, a, ns, rfl, hS, fun H1 u S1 nu s1 => ?_⟩
    refine ⟨3, rfl, by decide, by decide, for_range (lo := 0) (n := 3) (fun i σ H' => ∃ (v2 v3 v4 v5 : Option V), σ = [some (.ref a), some (.ref u), v2, v3, v4, v5] ∧ Src H' u) ⟨_, _, _, _, rfl, S1⟩ ?_ ?_⟩
    · rintro i σ H' hi ⟨v2, v3, v4, v5, rfl, S2⟩
      refine ⟨.ref u, rfl, u, rfl, S2, fun H3 z tz S3 B3 => ?_⟩
      obtain ⟨l, rfl⟩ : ∃ l, z = SX.S l := ⟨z.cps.toList, (SX.S_tl z).symm⟩
      have ll : l.length ≤ 450 := by
        have y := tz.len
        rw [SX.S_len] at y
        exact y
      have lc : ∀ c ∈ l, c < 128 := tz.2
      refine ⟨_, rfl, l, rfl, ll, fun hn H4 e4 => ?_, fun t b hs H4 w e4 hw => ?_⟩
      · refine ⟨_, rfl, rfl, _, rfl, iteT ?_⟩
        refine ⟨_, rfl, l, rfl, lc, ll, hn, fun H5 e5 => ⟨_, rfl, ?_⟩⟩
        refine iteF ?_
        exact ⟨_, _, _, _, rfl, S3.keep (fun b o h => e5 b o (e4 b o h))⟩
      · refine ⟨_, rfl, rfl, _, rfl, iteF ?_⟩
        refine ⟨rfl, _, rfl, l, rfl, lc, ll, fun t' b' hs' H5 x e5 hx => ?_, fun hn => absurd (hn.symm.trans hs) (fun z => nomatch z)⟩
        have ee := Option.some.inj (hs.symm.trans hs')
        have e1 : t = t' := (Prod.mk.inj ee).1
        have e2 : b = b' := (Prod.mk.inj ee).2
        subst e1 e2
        obtain ⟨⟨r1, r2, r3, r4⟩, h1, h2⟩ := reads_of hs
        rw [h1, h2] at r4
        rw [h2] at r3
        have st : Sz t := by
          rw [← h1]
          exact sz_val r1
        have sb : Sz b := by
          rw [← h2]
          exact sz_val r2
        have hw5 := e5 _ _ hw
        refine s_when (b := false) (et_is (et_or (a := false) (b := false) (et_is (et_not (et_B (ev_call (z := .bl true) (ea_cons (ev_var rfl) (ea_cons (ev_op (ev_var rfl) ev_c (rv_ixT (SqT.of hw5) (atI_nat (j := 0) rfl))) (ea_cons (ev_op (ev_var rfl) ev_c (rv_ixT (SqT.of hw5) (atI_nat (j := 1) rfl))) ea_nil))) fun H6 e6 Q k E => ⟨x, t, b, rfl, hx.mono e6, r3, st, sb, k⟩))) rfl)
          (fun _ => et_is (et_not (et_B (ev_sameT (x := .str (SX.S l)) (y := .str (SX.S l)) (ev_is (v := .str (txtS (lowT t b) (lowB t b))) (ev_cb (ea_cons (ev_var rfl) ea_nil) (fun H6 e6 Q q => by
            obtain ⟨dx, hdx⟩ := hx.mono e6
            exact ⟨x, dx, _, rfl, hdx, x, _, _, rfl, ⟨dx, hdx⟩, st.top r3, sb.bot r3, fun H' e' => ⟨_, rfl, q H' e'⟩⟩)) (by rw [txt_S, r4])) (ev_var rfl) rfl rfl rfl))) rfl)) rfl) (fun z => by cases z) (fun _ H6 e6 => ?_)
        exact ⟨_, _, _, _, rfl, S3.keep (fun b o h => e6 b o (e5 b o (e4 b o h)))⟩
    · rintro σ H' ⟨v2, v3, v4, v5, rfl, S2⟩
      exact k H'
end

end
theorem all_mk {l : PySem.W.OpenLaw} {w : World} {K : PySem.W.Frag} {h : Heap} {mg : Str → Option Value} {fa : Addr} (X : K.In h) (G : h.Ns mainGlobals mg) (hfa : mg "law" = some (.ref fa))
    {C_Share f0 f1 dt1 f2 sp2 f3 f4 f5 f6 f7 f8 f9 f10 f11 f12 f13 f14 f15 f16 f17 C_HornError C_BadName i_BadName cda1 cc1 C_BadShare i_BadShare cda2 cc2 C_ZeroBelow i_ZeroBelow cda3 cc3 : Addr} {od0 an0 od1 an1 dtd1 od2 an2 od3 an3 od4 an4 od5 an5 od6 an6 od7 an7 od8 an8 od9 an9 od10 an10 od11 an11 od12 an12 od13 an13 od14 an14 od15 an15 od16 an16 od17 an17 : Option Addr} {sl0 sl1 dts1 sl2 sl3 sl4 sl5 sl6 sl7 sl8 sl9 sl10 sl11 sl12 sl13 sl14 sl15 sl16 sl17 : Array (Option Value)} {oc0 kV0 dc0 pm0 cd0 ct0 oc1 kV1 dc1 pm1 cd1 ct1 dtc1 oc2 kV2 dc2 pm2 cd2 ct2 oc3 kV3 dc3 pm3 cd3 ct3 oc4 kV4 dc4 pm4 cd4 ct4 oc5 kV5 dc5 pm5 cd5 ct5 oc6 kV6 dc6 pm6 cd6 ct6 oc7 kV7 dc7 pm7 cd7 ct7 oc8 kV8 dc8 pm8 cd8 ct8 oc9 kV9 dc9 pm9 cd9 ct9 oc10 kV10 dc10 pm10 cd10 ct10 oc11 kV11 dc11 pm11 cd11 ct11 oc12 kV12 dc12 pm12 cd12 ct12 oc13 kV13 dc13 pm13 cd13 ct13 oc14 kV14 dc14 pm14 cd14 ct14 oc15 kV15 dc15 pm15 cd15 ct15 oc16 kV16 dc16 pm16 cd16 ct16 oc17 kV17 dc17 pm17 cd17 ct17 : Value} {tk0 dtk1_0 : Tok} {dta1 : Array Value} {dtn1 : Nat} {srest2 : List Value}
    {n_1 q_1 : Str} {N_1 : Addr} {bs_1 bm_1 : List Value} {sn_1 : List Str} {sub_1 : List Value} {ab_1 : Bool} {col_1 : Option Bool} {dd_1 : Option Addr} {w0_1 w1_1 w2_1 w3_1 w5_1 : Option Value} {oce_1 dce_1 pme_1 cte_1 ccl_1 cl_1 : Value} {ode_1 ane_1 cdd_1 cld_1 : Option Addr} {sle_1 ccs_1 csl_1 : Array (Option Value)} {vs_1 : Array Value} {file_1 : Str} {tf_1 : Tok}
    {n_2 q_2 : Str} {N_2 : Addr} {bs_2 bm_2 : List Value} {sn_2 : List Str} {sub_2 : List Value} {ab_2 : Bool} {col_2 : Option Bool} {dd_2 : Option Addr} {w0_2 w1_2 w2_2 w3_2 w5_2 : Option Value} {oce_2 dce_2 pme_2 cte_2 ccl_2 cl_2 : Value} {ode_2 ane_2 cdd_2 cld_2 : Option Addr} {sle_2 ccs_2 csl_2 : Array (Option Value)} {vs_2 : Array Value} {file_2 : Str} {tf_2 : Tok}
    {n_3 q_3 : Str} {N_3 : Addr} {bs_3 bm_3 : List Value} {sn_3 : List Str} {sub_3 : List Value} {ab_3 : Bool} {col_3 : Option Bool} {dd_3 : Option Addr} {w0_3 w1_3 w2_3 w3_3 w5_3 : Option Value} {oce_3 dce_3 pme_3 cte_3 ccl_3 cl_3 : Value} {ode_3 ane_3 cdd_3 cld_3 : Option Addr} {sle_3 ccs_3 csl_3 : Array (Option Value)} {vs_3 : Array Value} {file_3 : Str} {tf_3 : Tok}
    (cg0 : PySem.W.nsIn K mainGlobals "Share" = some (some (.ref C_Share)))
    (cpg0 : PySem.W.plainGet K C_Share Str.empty = true)
    (chd0 : PySem.W.hasDictIn K C_Share = true)
    (cpo0 : PySem.W.plainOver K C_Share = true)
    (csa0 : PySem.W.findIn K (.ref C_Share) "__setattr__" = some (some (.builtin "object.__setattr__")))
    (cmi0 : PySem.W.makesIn K C_Share = true)
    (ckc0 : PySem.W.keepIn K (.ref C_Share) = true)
    (cha0 : PySem.W.findIn K (.ref C_Share) "__class__" = some (some (.builtin "object.__class__")))
    (cmo0 : PySem.W.mroIn K C_Share (.type "object") = some true)
    (cme0 : PySem.W.kitOne K (.ref C_Share) (.ref C_Share) = some true)
    (cna0_0 : PySem.W.findIn K (.ref C_Share) "top" = some none)
    (cna0_1 : PySem.W.findIn K (.ref C_Share) "bottom" = some none)
    (cim0 : PySem.W.nsIn K mainGlobals "gcd" = some (some (.builtin "math.gcd")))
    (a0 : PySem.W.nsIn K mainGlobals "_reads_as_integer" = some (some (.ref f0)))
    (l0 : K.lookup f0 = some ⟨oc0, od0, .func (PySem.W.fnOf "_reads_as_integer" "_reads_as_integer" (defArgs s__reads_as_integer) (defBody s__reads_as_integer) (defScope s__reads_as_integer) .none kV0 dc0 pm0 an0 cd0 ct0), sl0⟩)
    (c0 : PySem.W.codeIn K cd0 "_reads_as_integer" = true)
    (k0 : PySem.W.keepIn K (.ref f0) = true)
    (a1 : PySem.W.findIn K (.ref C_Share) "__init__" = some (some (.ref f1)))
    (l1 : K.lookup f1 = some ⟨oc1, od1, .func (PySem.W.fnOf "__init__" "Share.__init__" (defArgs s_Share_init) (defBody s_Share_init) (defScope s_Share_init) (.ref dt1) kV1 dc1 pm1 an1 cd1 ct1), sl1⟩)
    (dl1 : K.lookup dt1 = some ⟨dtc1, dtd1, .seq dta1 dtn1, dts1⟩)
    (de1 : dta1 = [Value.int 1 dtk1_0].toArray)
    (if1 : PySem.W.isFn K (.ref f1) = true)
    (c1 : PySem.W.codeIn K cd1 "Share.__init__" = true)
    (k1 : PySem.W.keepIn K (.ref f1) = true)
    (a2 : PySem.W.findIn K (.ref C_Share) "read" = some (some (.ref sp2)))
    (sr2 : PySem.W.recIn K sp2 "staticmethod" = some (.ref f2 :: srest2))
    (sf2 : PySem.W.findCls K (.ref C_Share) (.type "type") "read" = some (.get (.builtin "staticmethod.__get__") (.ref sp2) .none (.ref C_Share)))
    (sd2 : PySem.W.readsIn K C_Share (.type "type") = true)
    (sg2 : PySem.W.specialIn K (.ref C_Share) "__getattribute__" = some (some (.builtin "type.__getattribute__")))
    (l2 : K.lookup f2 = some ⟨oc2, od2, .func (PySem.W.fnOf "read" "Share.read" (defArgs s_Share_read) (defBody s_Share_read) (defScope s_Share_read) .none kV2 dc2 pm2 an2 cd2 ct2), sl2⟩)
    (c2 : PySem.W.codeIn K cd2 "Share.read" = true)
    (k2 : PySem.W.keepIn K (.ref f2) = true)
    (a3 : PySem.W.findIn K (.ref C_Share) "__str__" = some (some (.ref f3)))
    (l3 : K.lookup f3 = some ⟨oc3, od3, .func (PySem.W.fnOf "__str__" "Share.__str__" (defArgs s_Share_str) (defBody s_Share_str) (defScope s_Share_str) .none kV3 dc3 pm3 an3 cd3 ct3), sl3⟩)
    (if3 : PySem.W.isFn K (.ref f3) = true)
    (c3 : PySem.W.codeIn K cd3 "Share.__str__" = true)
    (k3 : PySem.W.keepIn K (.ref f3) = true)
    (a4 : PySem.W.nsIn K mainGlobals "_law_source" = some (some (.ref f4)))
    (l4 : K.lookup f4 = some ⟨oc4, od4, .func (PySem.W.fnOf "_law_source" "_law_source" (defArgs s__law_source) (defBody s__law_source) (defScope s__law_source) .none kV4 dc4 pm4 an4 cd4 ct4), sl4⟩)
    (c4 : PySem.W.codeIn K cd4 "_law_source" = true)
    (k4 : PySem.W.keepIn K (.ref f4) = true)
    (a5 : PySem.W.nsIn K mainGlobals "_law_take" = some (some (.ref f5)))
    (l5 : K.lookup f5 = some ⟨oc5, od5, .func (PySem.W.fnOf "_law_take" "_law_take" (defArgs s__law_take) (defBody s__law_take) (defScope s__law_take) .none kV5 dc5 pm5 an5 cd5 ct5), sl5⟩)
    (c5 : PySem.W.codeIn K cd5 "_law_take" = true)
    (k5 : PySem.W.keepIn K (.ref f5) = true)
    (a6 : PySem.W.nsIn K mainGlobals "_law_same" = some (some (.ref f6)))
    (l6 : K.lookup f6 = some ⟨oc6, od6, .func (PySem.W.fnOf "_law_same" "_law_same" (defArgs s__law_same) (defBody s__law_same) (defScope s__law_same) .none kV6 dc6 pm6 an6 cd6 ct6), sl6⟩)
    (c6 : PySem.W.codeIn K cd6 "_law_same" = true)
    (k6 : PySem.W.keepIn K (.ref f6) = true)
    (a7 : PySem.W.nsIn K mainGlobals "_law_gcd" = some (some (.ref f7)))
    (l7 : K.lookup f7 = some ⟨oc7, od7, .func (PySem.W.fnOf "_law_gcd" "_law_gcd" (defArgs s__law_gcd) (defBody s__law_gcd) (defScope s__law_gcd) .none kV7 dc7 pm7 an7 cd7 ct7), sl7⟩)
    (c7 : PySem.W.codeIn K cd7 "_law_gcd" = true)
    (k7 : PySem.W.keepIn K (.ref f7) = true)
    (a8 : PySem.W.nsIn K mainGlobals "_law_is_share" = some (some (.ref f8)))
    (l8 : K.lookup f8 = some ⟨oc8, od8, .func (PySem.W.fnOf "_law_is_share" "_law_is_share" (defArgs s__law_is_share) (defBody s__law_is_share) (defScope s__law_is_share) .none kV8 dc8 pm8 an8 cd8 ct8), sl8⟩)
    (c8 : PySem.W.codeIn K cd8 "_law_is_share" = true)
    (k8 : PySem.W.keepIn K (.ref f8) = true)
    (a9 : PySem.W.nsIn K mainGlobals "_law_number" = some (some (.ref f9)))
    (l9 : K.lookup f9 = some ⟨oc9, od9, .func (PySem.W.fnOf "_law_number" "_law_number" (defArgs s__law_number) (defBody s__law_number) (defScope s__law_number) .none kV9 dc9 pm9 an9 cd9 ct9), sl9⟩)
    (c9 : PySem.W.codeIn K cd9 "_law_number" = true)
    (k9 : PySem.W.keepIn K (.ref f9) = true)
    (a10 : PySem.W.nsIn K mainGlobals "_law_share_text" = some (some (.ref f10)))
    (l10 : K.lookup f10 = some ⟨oc10, od10, .func (PySem.W.fnOf "_law_share_text" "_law_share_text" (defArgs s__law_share_text) (defBody s__law_share_text) (defScope s__law_share_text) .none kV10 dc10 pm10 an10 cd10 ct10), sl10⟩)
    (c10 : PySem.W.codeIn K cd10 "_law_share_text" = true)
    (k10 : PySem.W.keepIn K (.ref f10) = true)
    (a11 : PySem.W.nsIn K mainGlobals "_law_sign" = some (some (.ref f11)))
    (l11 : K.lookup f11 = some ⟨oc11, od11, .func (PySem.W.fnOf "_law_sign" "_law_sign" (defArgs s__law_sign) (defBody s__law_sign) (defScope s__law_sign) .none kV11 dc11 pm11 an11 cd11 ct11), sl11⟩)
    (c11 : PySem.W.codeIn K cd11 "_law_sign" = true)
    (k11 : PySem.W.keepIn K (.ref f11) = true)
    (a12 : PySem.W.nsIn K mainGlobals "_law_changed" = some (some (.ref f12)))
    (l12 : K.lookup f12 = some ⟨oc12, od12, .func (PySem.W.fnOf "_law_changed" "_law_changed" (defArgs s__law_changed) (defBody s__law_changed) (defScope s__law_changed) .none kV12 dc12 pm12 an12 cd12 ct12), sl12⟩)
    (c12 : PySem.W.codeIn K cd12 "_law_changed" = true)
    (k12 : PySem.W.keepIn K (.ref f12) = true)
    (a13 : PySem.W.nsIn K mainGlobals "_law_text" = some (some (.ref f13)))
    (l13 : K.lookup f13 = some ⟨oc13, od13, .func (PySem.W.fnOf "_law_text" "_law_text" (defArgs s__law_text) (defBody s__law_text) (defScope s__law_text) .none kV13 dc13 pm13 an13 cd13 ct13), sl13⟩)
    (c13 : PySem.W.codeIn K cd13 "_law_text" = true)
    (k13 : PySem.W.keepIn K (.ref f13) = true)
    (a14 : PySem.W.nsIn K mainGlobals "_law_figures" = some (some (.ref f14)))
    (l14 : K.lookup f14 = some ⟨oc14, od14, .func (PySem.W.fnOf "_law_figures" "_law_figures" (defArgs s__law_figures) (defBody s__law_figures) (defScope s__law_figures) .none kV14 dc14 pm14 an14 cd14 ct14), sl14⟩)
    (c14 : PySem.W.codeIn K cd14 "_law_figures" = true)
    (k14 : PySem.W.keepIn K (.ref f14) = true)
    (a15 : PySem.W.nsIn K mainGlobals "_law_parted" = some (some (.ref f15)))
    (l15 : K.lookup f15 = some ⟨oc15, od15, .func (PySem.W.fnOf "_law_parted" "_law_parted" (defArgs s__law_parted) (defBody s__law_parted) (defScope s__law_parted) .none kV15 dc15 pm15 an15 cd15 ct15), sl15⟩)
    (c15 : PySem.W.codeIn K cd15 "_law_parted" = true)
    (k15 : PySem.W.keepIn K (.ref f15) = true)
    (a16 : PySem.W.nsIn K mainGlobals "_law_refused" = some (some (.ref f16)))
    (l16 : K.lookup f16 = some ⟨oc16, od16, .func (PySem.W.fnOf "_law_refused" "_law_refused" (defArgs s__law_refused) (defBody s__law_refused) (defScope s__law_refused) .none kV16 dc16 pm16 an16 cd16 ct16), sl16⟩)
    (c16 : PySem.W.codeIn K cd16 "_law_refused" = true)
    (k16 : PySem.W.keepIn K (.ref f16) = true)
    (a17 : PySem.W.nsIn K mainGlobals "law" = some (some (.ref f17)))
    (l17 : K.lookup f17 = some ⟨oc17, od17, .func (PySem.W.fnOf "law" "law" (defArgs s_law) (defBody s_law) (defScope s_law) .none kV17 dc17 pm17 an17 cd17 ct17), sl17⟩)
    (c17 : PySem.W.codeIn K cd17 "law" = true)
    (k17 : PySem.W.keepIn K (.ref f17) = true)
    (v0 : PySem.W.nsIn K mainGlobals "MOST_DIGITS" = some (some (.int 60 tk0)))
    (eg0 : PySem.W.nsIn K mainGlobals "HornError" = some (some (.ref C_HornError)))
    (eg1 : PySem.W.nsIn K mainGlobals "BadName" = some (some (.ref C_BadName)))
    (el1 : K.lookup C_BadName = some (excClassObj n_1 q_1 C_BadName N_1 bs_1 bm_1 true sn_1 sub_1 ab_1 col_1 dd_1 w0_1 w1_1 w2_1 w3_1 w5_1 "ValueError.__new__"))
    (er1 : PySem.HandSPX.refsVE bm_1 = true)
    (esa1 : PySem.W.findIn K (.ref C_BadName) "__setattr__" = some (some (.builtin "object.__setattr__")))
    (ega1 : PySem.W.findIn K (.ref C_BadName) "__getattribute__" = some (some (.builtin "BaseException.__getattribute__")))
    (egg1 : PySem.W.findIn K (.ref C_BadName) "__getattr__" = some none)
    (ein1 : PySem.W.findIn K (.ref C_BadName) "__init__" = some (some (.ref i_BadName)))
    (ecl1 : PySem.W.findIn K (.ref C_BadName) "__class__" = some (some (.builtin "object.__class__")))
    (efn1 : PySem.W.findIn K (.ref C_BadName) "text" = some none)
    (eti1 : PySem.W.typeIn K (.ref i_BadName) = some (.type "function"))
    (ekc1 : PySem.W.keepIn K (.ref C_BadName) = true)
    (ebe1 : PySem.W.subIn K (.ref C_BadName) (.type "BaseException") = some true)
    (eve1 : PySem.W.subIn K (.ref C_BadName) (.type "ValueError") = some true)
    (ety1 : PySem.W.typeIn K (.ref C_BadName) = some (.type "type"))
    (ehd1 : PySem.W.hasDictIn K C_BadName = true)
    (eic1 : PySem.W.isClsIn K C_BadName = true)
    (ess1 : PySem.W.subIn K (.ref C_BadName) (.ref C_BadName) = some true)
    (eup1 : PySem.W.ks_superIn K C_BadName C_BadName "__init__" = some (some (.builtin "ValueError.__init__")))
    (emr1 : PySem.W.mroIn K C_BadName (.ref C_BadName) = some true)
    (emo1 : PySem.W.mroIn K C_BadName (.type "object") = some true)
    (elf1 : K.lookup i_BadName = some ⟨oce_1, ode_1, .func (PySem.W.ksFn "__init__" ("BadName" ++ ".__init__") ea_BadName eb_BadName (scope1 "text") .none .none dce_1 pme_1 ane_1 (.ref cda1) cte_1 cc1), sle_1⟩)
    (ecd1 : PySem.W.codeIn K (.ref cda1) ("BadName" ++ ".__init__") = true)
    (elc1 : K.lookup cda1 = some ⟨ccl_1, cdd_1, .fields vs_1, ccs_1⟩)
    (evs1 : vs_1[2]? = some (.str file_1 tf_1))
    (efi1 : (l.prog.main.file == file_1) = true)
    (ece1 : K.lookup cc1 = some ⟨cl_1, cld_1, .cell (some (.ref C_BadName)), csl_1⟩)
    (eg2 : PySem.W.nsIn K mainGlobals "BadShare" = some (some (.ref C_BadShare)))
    (el2 : K.lookup C_BadShare = some (excClassObj n_2 q_2 C_BadShare N_2 bs_2 bm_2 true sn_2 sub_2 ab_2 col_2 dd_2 w0_2 w1_2 w2_2 w3_2 w5_2 "ValueError.__new__"))
    (er2 : PySem.HandSPX.refsVE bm_2 = true)
    (esa2 : PySem.W.findIn K (.ref C_BadShare) "__setattr__" = some (some (.builtin "object.__setattr__")))
    (ega2 : PySem.W.findIn K (.ref C_BadShare) "__getattribute__" = some (some (.builtin "BaseException.__getattribute__")))
    (egg2 : PySem.W.findIn K (.ref C_BadShare) "__getattr__" = some none)
    (ein2 : PySem.W.findIn K (.ref C_BadShare) "__init__" = some (some (.ref i_BadShare)))
    (ecl2 : PySem.W.findIn K (.ref C_BadShare) "__class__" = some (some (.builtin "object.__class__")))
    (efn2 : PySem.W.findIn K (.ref C_BadShare) "text" = some none)
    (eti2 : PySem.W.typeIn K (.ref i_BadShare) = some (.type "function"))
    (ekc2 : PySem.W.keepIn K (.ref C_BadShare) = true)
    (ebe2 : PySem.W.subIn K (.ref C_BadShare) (.type "BaseException") = some true)
    (eve2 : PySem.W.subIn K (.ref C_BadShare) (.type "ValueError") = some true)
    (ety2 : PySem.W.typeIn K (.ref C_BadShare) = some (.type "type"))
    (ehd2 : PySem.W.hasDictIn K C_BadShare = true)
    (eic2 : PySem.W.isClsIn K C_BadShare = true)
    (ess2 : PySem.W.subIn K (.ref C_BadShare) (.ref C_BadShare) = some true)
    (eup2 : PySem.W.ks_superIn K C_BadShare C_BadShare "__init__" = some (some (.builtin "ValueError.__init__")))
    (emr2 : PySem.W.mroIn K C_BadShare (.ref C_BadShare) = some true)
    (emo2 : PySem.W.mroIn K C_BadShare (.type "object") = some true)
    (elf2 : K.lookup i_BadShare = some ⟨oce_2, ode_2, .func (PySem.W.ksFn "__init__" ("BadShare" ++ ".__init__") ea_BadShare eb_BadShare (scope1 "text") .none .none dce_2 pme_2 ane_2 (.ref cda2) cte_2 cc2), sle_2⟩)
    (ecd2 : PySem.W.codeIn K (.ref cda2) ("BadShare" ++ ".__init__") = true)
    (elc2 : K.lookup cda2 = some ⟨ccl_2, cdd_2, .fields vs_2, ccs_2⟩)
    (evs2 : vs_2[2]? = some (.str file_2 tf_2))
    (efi2 : (l.prog.main.file == file_2) = true)
    (ece2 : K.lookup cc2 = some ⟨cl_2, cld_2, .cell (some (.ref C_BadShare)), csl_2⟩)
    (eg3 : PySem.W.nsIn K mainGlobals "ZeroBelow" = some (some (.ref C_ZeroBelow)))
    (el3 : K.lookup C_ZeroBelow = some (excClassObj n_3 q_3 C_ZeroBelow N_3 bs_3 bm_3 true sn_3 sub_3 ab_3 col_3 dd_3 w0_3 w1_3 w2_3 w3_3 w5_3 "ValueError.__new__"))
    (er3 : PySem.HandSPX.refsVE bm_3 = true)
    (esa3 : PySem.W.findIn K (.ref C_ZeroBelow) "__setattr__" = some (some (.builtin "object.__setattr__")))
    (ega3 : PySem.W.findIn K (.ref C_ZeroBelow) "__getattribute__" = some (some (.builtin "BaseException.__getattribute__")))
    (egg3 : PySem.W.findIn K (.ref C_ZeroBelow) "__getattr__" = some none)
    (ein3 : PySem.W.findIn K (.ref C_ZeroBelow) "__init__" = some (some (.ref i_ZeroBelow)))
    (ecl3 : PySem.W.findIn K (.ref C_ZeroBelow) "__class__" = some (some (.builtin "object.__class__")))
    (eti3 : PySem.W.typeIn K (.ref i_ZeroBelow) = some (.type "function"))
    (ekc3 : PySem.W.keepIn K (.ref C_ZeroBelow) = true)
    (ebe3 : PySem.W.subIn K (.ref C_ZeroBelow) (.type "BaseException") = some true)
    (eve3 : PySem.W.subIn K (.ref C_ZeroBelow) (.type "ValueError") = some true)
    (ety3 : PySem.W.typeIn K (.ref C_ZeroBelow) = some (.type "type"))
    (ehd3 : PySem.W.hasDictIn K C_ZeroBelow = true)
    (eic3 : PySem.W.isClsIn K C_ZeroBelow = true)
    (ess3 : PySem.W.subIn K (.ref C_ZeroBelow) (.ref C_ZeroBelow) = some true)
    (eup3 : PySem.W.ks_superIn K C_ZeroBelow C_ZeroBelow "__init__" = some (some (.builtin "ValueError.__init__")))
    (emr3 : PySem.W.mroIn K C_ZeroBelow (.ref C_ZeroBelow) = some true)
    (emo3 : PySem.W.mroIn K C_ZeroBelow (.type "object") = some true)
    (elf3 : K.lookup i_ZeroBelow = some ⟨oce_3, ode_3, .func (PySem.W.ksFn "__init__" ("ZeroBelow" ++ ".__init__") ea_ZeroBelow eb_ZeroBelow scope0 .none .none dce_3 pme_3 ane_3 (.ref cda3) cte_3 cc3), sle_3⟩)
    (ecd3 : PySem.W.codeIn K (.ref cda3) ("ZeroBelow" ++ ".__init__") = true)
    (elc3 : K.lookup cda3 = some ⟨ccl_3, cdd_3, .fields vs_3, ccs_3⟩)
    (evs3 : vs_3[2]? = some (.str file_3 tf_3))
    (efi3 : (l.prog.main.file == file_3) = true)
    (ece3 : K.lookup cc3 = some ⟨cl_3, cld_3, .cell (some (.ref C_ZeroBelow)), csl_3⟩)
    (kt0 : PySem.W.kitOne K (.ref C_BadName) (.ref C_BadName) = some true)
    (kt1 : PySem.W.kitOne K (.ref C_BadName) (.ref C_HornError) = some true)
    (kt2 : PySem.W.kitOne K (.ref C_BadName) (.type "ValueError") = some true)
    (kt3 : PySem.W.kitOne K (.ref C_BadShare) (.ref C_BadName) = some false)
    (kt4 : PySem.W.kitOne K (.ref C_BadShare) (.ref C_HornError) = some true)
    (kt5 : PySem.W.kitOne K (.ref C_BadShare) (.type "ValueError") = some true)
    (kt6 : PySem.W.kitOne K (.ref C_ZeroBelow) (.ref C_BadName) = some false)
    (kt7 : PySem.W.kitOne K (.ref C_ZeroBelow) (.ref C_HornError) = some true)
    (kt8 : PySem.W.kitOne K (.ref C_ZeroBelow) (.type "ValueError") = some true)
    (z0 : PySem.W.nsIn K mainGlobals "NotImplemented" = some none)
    (z1 : PySem.W.nsIn K mainGlobals "ValueError" = some none)
    (z2 : PySem.W.nsIn K mainGlobals "abs" = some none)
    (z3 : PySem.W.nsIn K mainGlobals "all" = some none)
    (z4 : PySem.W.nsIn K mainGlobals "bool" = some none)
    (z5 : PySem.W.nsIn K mainGlobals "int" = some none)
    (z6 : PySem.W.nsIn K mainGlobals "isinstance" = some none)
    (z7 : PySem.W.nsIn K mainGlobals "len" = some none)
    (z8 : PySem.W.nsIn K mainGlobals "list" = some none)
    (z9 : PySem.W.nsIn K mainGlobals "range" = some none)
    (z10 : PySem.W.nsIn K mainGlobals "staticmethod" = some none)
    (z11 : PySem.W.nsIn K mainGlobals "str" = some none)
    (zsu : PySem.W.nsIn K mainGlobals "super" = some none)
    (z13 : PySem.W.nsIn K mainGlobals "tuple" = some none)
    (zop : PySem.W.nsIn K cStatics "thirdparty.any" = some none)
    (zsp : PySem.W.specialIn K (.builtin "object.__class__") "__get__" = some (some (.builtin "getset_descriptor.__get__")))
    (ztk : PySem.W.takesIn K (.builtin "object.__class__") = some true)
    (znm : (l.prog.main.scope.names.lookup ("super" : Str)).isSome = false)
    : ∃ fd : FuncData, (∀ (s : Shared) (v : Value), BindsTo s fd ⟨[v], []⟩ [("_law_script", v)]) ∧ ∀ base : Heap, K.In base → base.Ns mainGlobals mg → FnOk l.prog w K mg base CX0 6 fa fd ["_law_script"] (spLaw K) := by
  have e := hfa.symm.trans (PySem.W.mg_of X G a17)
  cases e
  have cl0 : Cls K C_Share := ⟨cpg0, chd0, cpo0, csa0⟩
  have F0 := fun_mk (st := s__reads_as_integer) l0 c0 k0
  have b0 := F0.binds (ps := ["text"]) fun _ _ _ _ _ _ us hl => match us, hl with | [_], _ => rfl
  have F1 : FunD K "__init__" "Share.__init__" (defArgs s_Share_init) (defBody s_Share_init) (defScope s_Share_init) [.int 1] [] f1 _ := ⟨⟨_, _, _, _, _, _, _, _, _, _, rfl, l1, c1, .inr ⟨(by simp), _, _, [Value.int 1 dtk1_0], _, rfl, dl1, (by rw [de1]), (.cons ⟨_, rfl⟩ (.nil))⟩, .inl rfl⟩, k1⟩
  have b1 := F1.bindsF (ps := ["self", "top", "bottom"]) (by simp) fun _ _ _ _ _ _ _ us its hu hi => match us, its, hu, hi with | [_, _, _], [_], _, _ => ⟨_, rfl, rfl⟩
  have bd1 := F1.binds1 (ps := ["self", "top", "bottom"]) 2 0 (by simp) rfl fun _ _ _ _ _ _ _ us its hu hi => match us, its, hu, hi with | [_, _], [_], _, _ => ⟨_, rfl, rfl⟩
  have F2 := fun_mk (st := s_Share_read) l2 c2 k2
  have b2 := F2.binds (ps := ["text"]) fun _ _ _ _ _ _ us hl => match us, hl with | [_], _ => rfl
  have F3 := fun_mk (st := s_Share_str) l3 c3 k3
  have b3 := F3.binds (ps := ["self"]) fun _ _ _ _ _ _ us hl => match us, hl with | [_], _ => rfl
  have F4 := fun_mk (st := s__law_source) l4 c4 k4
  have b4 := F4.binds (ps := ["_law_script"]) fun _ _ _ _ _ _ us hl => match us, hl with | [_], _ => rfl
  have F5 := fun_mk (st := s__law_take) l5 c5 k5
  have b5 := F5.binds (ps := ["_law_source_here", "_law_many"]) fun _ _ _ _ _ _ us hl => match us, hl with | [_, _], _ => rfl
  have F6 := fun_mk (st := s__law_same) l6 c6 k6
  have b6 := F6.binds (ps := ["_law_one", "_law_other"]) fun _ _ _ _ _ _ us hl => match us, hl with | [_, _], _ => rfl
  have F7 := fun_mk (st := s__law_gcd) l7 c7 k7
  have b7 := F7.binds (ps := ["_law_one", "_law_other"]) fun _ _ _ _ _ _ us hl => match us, hl with | [_, _], _ => rfl
  have F8 := fun_mk (st := s__law_is_share) l8 c8 k8
  have b8 := F8.binds (ps := ["_law_share", "_law_top", "_law_bottom"]) fun _ _ _ _ _ _ us hl => match us, hl with | [_, _, _], _ => rfl
  have F9 := fun_mk (st := s__law_number) l9 c9 k9
  have b9 := F9.binds (ps := ["_law_source_here", "_law_parts"]) fun _ _ _ _ _ _ us hl => match us, hl with | [_, _], _ => rfl
  have F10 := fun_mk (st := s__law_share_text) l10 c10 k10
  have b10 := F10.binds (ps := ["_law_top", "_law_bottom"]) fun _ _ _ _ _ _ us hl => match us, hl with | [_, _], _ => rfl
  have F11 := fun_mk (st := s__law_sign) l11 c11 k11
  have b11 := F11.binds (ps := ["_law_source_here"]) fun _ _ _ _ _ _ us hl => match us, hl with | [_], _ => rfl
  have F12 := fun_mk (st := s__law_changed) l12 c12 k12
  have b12 := F12.binds (ps := ["_law_source_here", "_law_text_here"]) fun _ _ _ _ _ _ us hl => match us, hl with | [_, _], _ => rfl
  have F13 := fun_mk (st := s__law_text) l13 c13 k13
  have b13 := F13.binds (ps := ["_law_source_here"]) fun _ _ _ _ _ _ us hl => match us, hl with | [_], _ => rfl
  have F14 := fun_mk (st := s__law_figures) l14 c14 k14
  have b14 := F14.binds (ps := ["_law_text_here"]) fun _ _ _ _ _ _ us hl => match us, hl with | [_], _ => rfl
  have F15 := fun_mk (st := s__law_parted) l15 c15 k15
  have b15 := F15.binds (ps := ["_law_text_here"]) fun _ _ _ _ _ _ us hl => match us, hl with | [_], _ => rfl
  have F16 := fun_mk (st := s__law_refused) l16 c16 k16
  have b16 := F16.binds (ps := ["_law_text_here"]) fun _ _ _ _ _ _ us hl => match us, hl with | [_], _ => rfl
  have F17 := fun_mk (st := s_law) l17 c17 k17
  have b17 := F17.binds (ps := ["_law_script"]) fun _ _ _ _ _ _ us hl => match us, hl with | [_], _ => rfl
  have E_BadName : Cls1 l.prog K mg "BadName" C_BadName i_BadName ea_BadName eb_BadName (scope1 "text") := { gC := PySem.W.mg_of X G eg1, cls := ⟨n_1, q_1, N_1, bs_1, bm_1, sn_1, sub_1, ab_1, col_1, dd_1, w0_1, w1_1, w2_1, w3_1, w5_1, el1, er1⟩, sa := esa1, ga := ega1, gg := egg1, iC := ein1, tC := eti1, kC := ekc1, exC := ebe1, veC := eve1, tyC := ety1, hdC := ehd1, te := exm_self ebe1 eic1 ety1 ess1, up := eup1, self := emr1, op := zop, noS := PySem.W.mg_none_of X G zsu, fn := ⟨oce_1, ode_1, dce_1, pme_1, ane_1, cda1, cc1, cte_1, sle_1, ccl_1, cl_1, cdd_1, cld_1, vs_1, ccs_1, csl_1, file_1, tf_1, elf1, ecd1, elc1, evs1, efi1, ece1⟩, noM := znm }
  have X_BadName : ExcC K C_BadName := ⟨ega1, egg1, ebe1, ehd1, ecl1, zsp, ztk, emo1⟩
  have E_BadShare : Cls1 l.prog K mg "BadShare" C_BadShare i_BadShare ea_BadShare eb_BadShare (scope1 "text") := { gC := PySem.W.mg_of X G eg2, cls := ⟨n_2, q_2, N_2, bs_2, bm_2, sn_2, sub_2, ab_2, col_2, dd_2, w0_2, w1_2, w2_2, w3_2, w5_2, el2, er2⟩, sa := esa2, ga := ega2, gg := egg2, iC := ein2, tC := eti2, kC := ekc2, exC := ebe2, veC := eve2, tyC := ety2, hdC := ehd2, te := exm_self ebe2 eic2 ety2 ess2, up := eup2, self := emr2, op := zop, noS := PySem.W.mg_none_of X G zsu, fn := ⟨oce_2, ode_2, dce_2, pme_2, ane_2, cda2, cc2, cte_2, sle_2, ccl_2, cl_2, cdd_2, cld_2, vs_2, ccs_2, csl_2, file_2, tf_2, elf2, ecd2, elc2, evs2, efi2, ece2⟩, noM := znm }
  have X_BadShare : ExcC K C_BadShare := ⟨ega2, egg2, ebe2, ehd2, ecl2, zsp, ztk, emo2⟩
  have E_ZeroBelow : Cls1 l.prog K mg "ZeroBelow" C_ZeroBelow i_ZeroBelow ea_ZeroBelow eb_ZeroBelow scope0 := { gC := PySem.W.mg_of X G eg3, cls := ⟨n_3, q_3, N_3, bs_3, bm_3, sn_3, sub_3, ab_3, col_3, dd_3, w0_3, w1_3, w2_3, w3_3, w5_3, el3, er3⟩, sa := esa3, ga := ega3, gg := egg3, iC := ein3, tC := eti3, kC := ekc3, exC := ebe3, veC := eve3, tyC := ety3, hdC := ehd3, te := exm_self ebe3 eic3 ety3 ess3, up := eup3, self := emr3, op := zop, noS := PySem.W.mg_none_of X G zsu, fn := ⟨oce_3, ode_3, dce_3, pme_3, ane_3, cda3, cc3, cte_3, sle_3, ccl_3, cl_3, cdd_3, cld_3, vs_3, ccs_3, csl_3, file_3, tf_3, elf3, ecd3, elc3, evs3, efi3, ece3⟩, noM := znm }
  have X_ZeroBelow : ExcC K C_ZeroBelow := ⟨ega3, egg3, ebe3, ehd3, ecl3, zsp, ztk, emo3⟩
  let T : Txt l.prog K mg := { C_Share := C_Share, g_Share := PySem.W.mg_of X G cg0, cl_Share := cl0, mi_Share := cmi0, kc_Share := ckc0, ins_Share := ⟨cl0, cha0, zsp, ztk, cmo0, cme0⟩, na_Share_top := cna0_0, na_Share_bottom := cna0_1, v_gcd := PySem.W.mg_of X G cim0, f__reads_as_integer := f0, d__reads_as_integer := _, F__reads_as_integer := F0, b__reads_as_integer := b0, g__reads_as_integer := PySem.W.mg_of X G a0, m_Share_init := a1, i_Share_init := if1, b_Share_init := b1, bd_Share_init := bd1, f_Share_init := f1, d_Share_init := _, F_Share_init := F1, p_Share_read := sp2, S_Share_read := ⟨sd2, sg2, sf2, ⟨_, sr2⟩, k2⟩, f_Share_read := f2, d_Share_read := _, F_Share_read := F2, b_Share_read := b2, m_Share_str := a3, i_Share_str := if3, f_Share_str := f3, d_Share_str := _, F_Share_str := F3, b_Share_str := b3, f__law_source := f4, d__law_source := _, F__law_source := F4, b__law_source := b4, g__law_source := PySem.W.mg_of X G a4, f__law_take := f5, d__law_take := _, F__law_take := F5, b__law_take := b5, g__law_take := PySem.W.mg_of X G a5, f__law_same := f6, d__law_same := _, F__law_same := F6, b__law_same := b6, g__law_same := PySem.W.mg_of X G a6, f__law_gcd := f7, d__law_gcd := _, F__law_gcd := F7, b__law_gcd := b7, g__law_gcd := PySem.W.mg_of X G a7, f__law_is_share := f8, d__law_is_share := _, F__law_is_share := F8, b__law_is_share := b8, g__law_is_share := PySem.W.mg_of X G a8, f__law_number := f9, d__law_number := _, F__law_number := F9, b__law_number := b9, g__law_number := PySem.W.mg_of X G a9, f__law_share_text := f10, d__law_share_text := _, F__law_share_text := F10, b__law_share_text := b10, g__law_share_text := PySem.W.mg_of X G a10, f__law_sign := f11, d__law_sign := _, F__law_sign := F11, b__law_sign := b11, g__law_sign := PySem.W.mg_of X G a11, f__law_changed := f12, d__law_changed := _, F__law_changed := F12, b__law_changed := b12, g__law_changed := PySem.W.mg_of X G a12, f__law_text := f13, d__law_text := _, F__law_text := F13, b__law_text := b13, g__law_text := PySem.W.mg_of X G a13, f__law_figures := f14, d__law_figures := _, F__law_figures := F14, b__law_figures := b14, g__law_figures := PySem.W.mg_of X G a14, f__law_parted := f15, d__law_parted := _, F__law_parted := F15, b__law_parted := b15, g__law_parted := PySem.W.mg_of X G a15, f__law_refused := f16, d__law_refused := _, F__law_refused := F16, b__law_refused := b16, g__law_refused := PySem.W.mg_of X G a16, f_law := fa, d_law := _, F_law := F17, b_law := b17, g_law := PySem.W.mg_of X G a17, t_MOST_DIGITS := tk0, v_MOST_DIGITS := PySem.W.mg_of X G v0, C_HornError := C_HornError, g_HornError := PySem.W.mg_of X G eg0, C_BadName := C_BadName, i_BadName := i_BadName, E_BadName := E_BadName, x_BadName := X_BadName, o_BadName := efn1, C_BadShare := C_BadShare, i_BadShare := i_BadShare, E_BadShare := E_BadShare, x_BadShare := X_BadShare, o_BadShare := efn2, C_ZeroBelow := C_ZeroBelow, i_ZeroBelow := i_ZeroBelow, E_ZeroBelow := E_ZeroBelow, x_ZeroBelow := X_ZeroBelow, k_BadName_BadName := ⟨_, kt0, rfl⟩, k_BadName_HornError := ⟨_, kt1, rfl⟩, k_BadName_ValueError := ⟨_, kt2, rfl⟩, k_BadShare_BadName := ⟨_, kt3, rfl⟩, k_BadShare_HornError := ⟨_, kt4, rfl⟩, k_BadShare_ValueError := ⟨_, kt5, rfl⟩, k_ZeroBelow_BadName := ⟨_, kt6, rfl⟩, k_ZeroBelow_HornError := ⟨_, kt7, rfl⟩, k_ZeroBelow_ValueError := ⟨_, kt8, rfl⟩, n_NotImplemented := PySem.W.mg_none_of X G z0, n_ValueError := PySem.W.mg_none_of X G z1, n_abs := PySem.W.mg_none_of X G z2, n_all := PySem.W.mg_none_of X G z3, n_bool := PySem.W.mg_none_of X G z4, n_int := PySem.W.mg_none_of X G z5, n_isinstance := PySem.W.mg_none_of X G z6, n_len := PySem.W.mg_none_of X G z7, n_list := PySem.W.mg_none_of X G z8, n_range := PySem.W.mg_none_of X G z9, n_staticmethod := PySem.W.mg_none_of X G z10, n_str := PySem.W.mg_none_of X G z11, n_super := PySem.W.mg_none_of X G zsu, n_tuple := PySem.W.mg_none_of X G z13 }
  exact ⟨PySem.W.fnOf "law" "law" (defArgs s_law) (defBody s_law) (defScope s_law) .none kV17 dc17 pm17 an17 cd17 ct17, fun s v => .of_eq rfl, fun base _ _ => ok_law T⟩
end Hk6
open PySem PySem.W PyProof.Rows
set_option maxHeartbeats 0 in
theorem PySem.Challenge.cw_renamedhorn_k06_shares_read_back_holds : PySem.Challenge.rw_renamedhorn_k06_shares_read_back.Holds := by
  w_on; o_law; k_head; (case hw => w_witness2)
  k_fill
  refine L2.walk_of (l := PySem.Challenge.rw_renamedhorn_k06_shares_read_back) (n := 63) (k := 6) (x := "_law_script") (CX := fun _ => L2.CX0) (sp := fun w => Hk6.spLaw _) rfl (by decide) rfl ⟨rfl, by decide, by decide⟩ (fun w h Y => PySem.W.kIn_of Y) ?F (fun _ _ a ns hl _ hS => ⟨a, ns, rfl, hS, hl, fun _ => rfl⟩) (fun _ _ _ _ _ h => h)
  case F =>
    intro w mg fa h KX G hmg
    refine' Hk6.all_mk KX G hmg ?cg0 ?cpg0 ?chd0 ?cpo0 ?csa0 ?cmi0 ?ckc0 ?cha0 ?cmo0 ?cme0 ?cna0_0 ?cna0_1 ?cim0 ?a0 ?l0 ?c0 ?k0 ?a1 ?l1 ?dl1 ?de1 ?if1 ?c1 ?k1 ?a2 ?sr2 ?sf2 ?sd2 ?sg2 ?l2 ?c2 ?k2 ?a3 ?l3 ?if3 ?c3 ?k3 ?a4 ?l4 ?c4 ?k4 ?a5 ?l5 ?c5 ?k5 ?a6 ?l6 ?c6 ?k6 ?a7 ?l7 ?c7 ?k7 ?a8 ?l8 ?c8 ?k8 ?a9 ?l9 ?c9 ?k9 ?a10 ?l10 ?c10 ?k10 ?a11 ?l11 ?c11 ?k11 ?a12 ?l12 ?c12 ?k12 ?a13 ?l13 ?c13 ?k13 ?a14 ?l14 ?c14 ?k14 ?a15 ?l15 ?c15 ?k15 ?a16 ?l16 ?c16 ?k16 ?a17 ?l17 ?c17 ?k17 ?v0 ?eg0 ?eg1 ?el1 ?er1 ?esa1 ?ega1 ?egg1 ?ein1 ?ecl1 ?efn1 ?eti1 ?ekc1 ?ebe1 ?eve1 ?ety1 ?ehd1 ?eic1 ?ess1 ?eup1 ?emr1 ?emo1 ?elf1 ?ecd1 ?elc1 ?evs1 ?efi1 ?ece1 ?eg2 ?el2 ?er2 ?esa2 ?ega2 ?egg2 ?ein2 ?ecl2 ?efn2 ?eti2 ?ekc2 ?ebe2 ?eve2 ?ety2 ?ehd2 ?eic2 ?ess2 ?eup2 ?emr2 ?emo2 ?elf2 ?ecd2 ?elc2 ?evs2 ?efi2 ?ece2 ?eg3 ?el3 ?er3 ?esa3 ?ega3 ?egg3 ?ein3 ?ecl3 ?eti3 ?ekc3 ?ebe3 ?eve3 ?ety3 ?ehd3 ?eic3 ?ess3 ?eup3 ?emr3 ?emo3 ?elf3 ?ecd3 ?elc3 ?evs3 ?efi3 ?ece3 ?kt0 ?kt1 ?kt2 ?kt3 ?kt4 ?kt5 ?kt6 ?kt7 ?kt8 ?z0 ?z1 ?z2 ?z3 ?z4 ?z5 ?z6 ?z7 ?z8 ?z9 ?z10 ?z11 ?zsu ?z13 ?zop ?zsp ?ztk ?znm
    (case cg0 => k_is); (case cpg0 => k_is); (case chd0 => k_is); (case cpo0 => k_is); (case csa0 => k_is); (case cmi0 => k_is); (case ckc0 => k_is); (case cha0 => k_is); (case cmo0 => k_is)
    (case cme0 => kit_is); (case cna0_0 => k_is); (case cna0_1 => k_is); (case cim0 => k_is); (case a0 => k_is); (case l0 => k_is); (case c0 => k_is); (case k0 => k_is); (case a1 => k_is)
    (case l1 => k_is); (case dl1 => k_is); (case de1 => rfl); (case if1 => k_is); (case c1 => k_is); (case k1 => k_is); (case a2 => k_is); (case sr2 => k_is); (case sf2 => k_is); (case sd2 => k_is)
    (case sg2 => k_is); (case l2 => k_is); (case c2 => k_is); (case k2 => k_is); (case a3 => k_is); (case l3 => k_is); (case if3 => k_is); (case c3 => k_is); (case k3 => k_is); (case a4 => k_is)
    (case l4 => k_is); (case c4 => k_is); (case k4 => k_is); (case a5 => k_is); (case l5 => k_is); (case c5 => k_is); (case k5 => k_is); (case a6 => k_is); (case l6 => k_is); (case c6 => k_is)
    (case k6 => k_is); (case a7 => k_is); (case l7 => k_is); (case c7 => k_is); (case k7 => k_is); (case a8 => k_is); (case l8 => k_is); (case c8 => k_is); (case k8 => k_is); (case a9 => k_is)
    (case l9 => k_is); (case c9 => k_is); (case k9 => k_is); (case a10 => k_is); (case l10 => k_is); (case c10 => k_is); (case k10 => k_is); (case a11 => k_is); (case l11 => k_is); (case c11 => k_is)
    (case k11 => k_is); (case a12 => k_is); (case l12 => k_is); (case c12 => k_is); (case k12 => k_is); (case a13 => k_is); (case l13 => k_is); (case c13 => k_is); (case k13 => k_is)
    (case a14 => k_is); (case l14 => k_is); (case c14 => k_is); (case k14 => k_is); (case a15 => k_is); (case l15 => k_is); (case c15 => k_is); (case k15 => k_is); (case a16 => k_is)
    (case l16 => k_is); (case c16 => k_is); (case k16 => k_is); (case a17 => k_is); (case l17 => k_is); (case c17 => k_is); (case k17 => k_is); (case v0 => k_is); (case eg0 => k_is)
    (case eg1 => k_is); (case el1 => k_is); (case er1 => decide +kernel); (case esa1 => k_is); (case ega1 => k_is); (case egg1 => k_is); (case ein1 => k_is); (case ecl1 => k_is); (case efn1 => k_is)
    (case eti1 => k_is); (case ekc1 => k_is); (case ebe1 => k_is); (case eve1 => k_is); (case ety1 => k_is); (case ehd1 => k_is); (case eic1 => k_is); (case ess1 => first | rfl | k_is)
    (case eup1 => ks_is); (case emr1 => k_is); (case emo1 => k_is); (case elf1 => k_is); (case ecd1 => k_is); (case elc1 => k_is); (case evs1 => rfl); (case efi1 => first | rfl | decide +kernel)
    (case ece1 => k_is); (case eg2 => k_is); (case el2 => k_is); (case er2 => decide +kernel); (case esa2 => k_is); (case ega2 => k_is); (case egg2 => k_is); (case ein2 => k_is); (case ecl2 => k_is)
    (case efn2 => k_is); (case eti2 => k_is); (case ekc2 => k_is); (case ebe2 => k_is); (case eve2 => k_is); (case ety2 => k_is); (case ehd2 => k_is); (case eic2 => k_is)
    (case ess2 => first | rfl | k_is); (case eup2 => ks_is); (case emr2 => k_is); (case emo2 => k_is); (case elf2 => k_is); (case ecd2 => k_is); (case elc2 => k_is); (case evs2 => rfl)
    (case efi2 => first | rfl | decide +kernel); (case ece2 => k_is); (case eg3 => k_is); (case el3 => k_is); (case er3 => decide +kernel); (case esa3 => k_is); (case ega3 => k_is)
    (case egg3 => k_is); (case ein3 => k_is); (case ecl3 => k_is); (case eti3 => k_is); (case ekc3 => k_is); (case ebe3 => k_is); (case eve3 => k_is); (case ety3 => k_is); (case ehd3 => k_is)
    (case eic3 => k_is); (case ess3 => first | rfl | k_is); (case eup3 => ks_is); (case emr3 => k_is); (case emo3 => k_is); (case elf3 => k_is); (case ecd3 => k_is); (case elc3 => k_is)
    (case evs3 => rfl); (case efi3 => first | rfl | decide +kernel); (case ece3 => k_is); (case kt0 => kit_is); (case kt1 => kit_is); (case kt2 => kit_is); (case kt3 => kit_is); (case kt4 => kit_is)
    (case kt5 => kit_is); (case kt6 => kit_is); (case kt7 => kit_is); (case kt8 => kit_is); (case z0 => k_is); (case z1 => k_is); (case z2 => k_is); (case z3 => k_is); (case z4 => k_is)
    (case z5 => k_is); (case z6 => k_is); (case z7 => k_is); (case z8 => k_is); (case z9 => k_is); (case z10 => k_is); (case z11 => k_is); (case zsu => k_is); (case z13 => k_is); (case zop => k_is)
    (case zsp => k_is); (case ztk => k_is); (case znm => first | rfl | decide +kernel)
