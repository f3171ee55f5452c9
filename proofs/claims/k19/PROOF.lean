import PyProof.Rows.All
import Wide.All
import OpenK.AllK
import Wide.FinOn
import PyProof.EqAt
import PyProof.EqKinds
import PyProof.TupleCall
import PyProof.FString
import PyProof.FString4
import KE.KExcSuper
import HandS.ForMost
import HandS.ForExc
import HandS.ExcIs
import KE.KExcIs
import HandS.IsInst
import HandS.ExcCtx
import HandS.HotCalls
import HandS.Evl
import HandS.Wide
import HandS.Defaults
import HandS.Gcd
import HandS.FStr
import HandS.Codes
import HandS.ClsMeth
import HandS.Replace
import HandS.ReplaceLit
import HandS.CallSlots
import HandS.ReplaceList
import HandS.Set
import HandS.SetFor
import HandS.SetTxt0
import HandS.Strs
import PyProof.Rows.SortStr
import PyProof.Rows.SortShellAny
import HandS.Comp
import HandS.Hot
import HandS.Star
import HandS.Style
import HandS.OwnIter
import HandS.IterNext
import HandS.TupAny
import HandS.SuiteRaise
import HandS.RaiseFrom
import KE.KAsSuite
import HandS.Words
import HandS.HeadEnd
import HandS.HeadHook1
import HandS.HeadHook2
import HandS.Head0
import HandS.Head1
import HandS.Head2
import HandS.StrMore
import HandS.Text
import HandS.Walk
import HandS.Iter
import HandS.RaiseMore
import HandS.Rev
import HandS.Property
import HandS.More
import PySem.Challenge.RW_renamedhorn_k19_clause_texts_read
set_option Elab.async false
set_option linter.all false
set_option maxRecDepth 100000
set_option maxHeartbeats 4000000
/-! Own error classes (over a class over ValueError) whose __init__ hands a text to super().__init__ and keeps one argument, or none. -/
namespace Er
open PySem PySem.W PySem.Calls PyProof.Rows PySem.HandSPX
/-- the text of __init__(self, f): super().__init__(me); self.f = f -/
def args1 (f : Str) (p1 p2 : Pos) : Arguments := { posonlyargs := [], args := [{ arg := "self", annotation := none, pos := p1 }, { arg := f, annotation := none, pos := p2 }], vararg := none, kwonlyargs := [], kw_defaults := [], kwarg := none, defaults := [] }
def supS (me : Expr) (a b c d e : Pos) : Stmt := .Expr (.Call (.Attribute (.Call (.Name "super" a) [] [] b) "__init__" c) [me] [] d) e
def keepS (f : Str) (a b c d : Pos) : Stmt := .Assign [.Attribute (.Name "self" a) f b] (.Name f c) d
def scope1 (f : Str) : Scope := { kind := .function, names := [(PySem.Str.ofString "self", .local), (f, .local), (PySem.Str.ofString "__class__", .free), (PySem.Str.ofString "super", .globalImplicit)], isGenerator := false, isCoroutine := false, more := [] }
/-- what the written part says of an error class at C with its __init__ at fI, its __class__ cell at cc, its code at cda -/
structure Cls1 (P : Program) (K : Frag) (mg : Str → Option Value) (nm : Str) (C fI : Addr) (pars : Arguments) (body : List Stmt) (sc : Scope) : Prop where
  gC : mg nm = some (.ref C)
  cls : ∃ n q N bs bm sn sub ab col dd k0 k1 k2 k3 k5, K.lookup C = some (excClassObj n q C N bs bm true sn sub ab col dd k0 k1 k2 k3 k5 "ValueError.__new__") ∧ refsVE bm = true
  sa : findIn K (.ref C) "__setattr__" = some (some (.builtin "object.__setattr__"))
  ga : findIn K (.ref C) "__getattribute__" = some (some (.builtin "BaseException.__getattribute__"))
  gg : findIn K (.ref C) "__getattr__" = some none
  iC : findIn K (.ref C) "__init__" = some (some (.ref fI))
  tC : typeIn K (.ref fI) = some (.type "function")
  kC : keepIn K (.ref C) = true
  exC : subIn K (.ref C) (.type "BaseException") = some true
  veC : subIn K (.ref C) (.type "ValueError") = some true
  tyC : typeIn K (.ref C) = some (.type "type")
  hdC : hasDictIn K C = true
  te : exmOne K (.ref C) (.ref C) = some true
  up : ks_superIn K C C "__init__" = some (some (.builtin "ValueError.__init__"))
  self : mroIn K C (.ref C) = some true
  op : nsIn K cStatics "thirdparty.any" = some none
  noS : mg "super" = none
  fn : ∃ (oc : Value) (od : Option Addr) (doc pm : Value) (an : Option Addr) (cda cc : Addr) (ct : Value) (osl : Array (Option Value)) (ccl cl : Value) (cdd cld : Option Addr) (vs : Array Value) (ccs csl : Array (Option Value)) (file : Str) (tf : Tok),
    K.lookup fI = some ⟨oc, od, .func (ksFn "__init__" (nm ++ ".__init__") pars body sc .none .none doc pm an (.ref cda) ct cc), osl⟩ ∧ codeIn K (.ref cda) (nm ++ ".__init__") = true ∧
    K.lookup cda = some ⟨ccl, cdd, .fields vs, ccs⟩ ∧ vs[2]? = some (.str file tf) ∧ ((P.main.file : Str) == file) = true ∧
    K.lookup cc = some ⟨cl, cld, .cell (some (.ref C)), csl⟩
  noM : (P.main.scope.names.lookup ("super" : Str)).isSome = false
/-- an expression that gives a text and makes nothing else, where the name x holds v -/
structure Msg (me : Expr) (x : Str) (v : Value) (sc : Scope) : Prop where
  call : ∀ (env : Env) (a b c d : Pos), (c.endLine == d.line) = true → ∃ pl : Sem Bool, eval (.Call (.Attribute (.Call (.Name "super" a) [] [] b) "__init__" c) [me] [] d) env = (do
      let ov ← attributeBase (.Call (.Name "super" a) [] [] b) "__init__" env (eval (.Call (.Name "super" a) [] [] b) env)
      standAt c.atName
      let (f, first) ← holding [ov] (getMethod ov "__init__" pl)
      callWith d f first (backTo d (starEach [me] env)) [])
  star : ∀ env : Env, starEach [me] env = (false, eval me env) :: starEach [] env
  swap : ∀ (env : Env) (a b c d : Pos) (n : Nat), swapsWith (.Call (.Attribute (.Call (.Name "super" a) [] [] b) "__init__" c) [me] [] d) none n env = pure false
  text : ∀ (prog : Program) (w : World) (A : Around) (E : Value → Shared → Prop) (env : Env) (s : Shared) (m : Str → Option Value) (Q : Value → Shared → Prop),
    env.scope = sc → s.heap.Ns env.locals m → m x = some v → (∀ y tk n, Q (.str y tk) { s with toks := n }) → wpAny (model prog w) A (eval me env) Q E s
theorem size1 (v : Value) : [v].length ≤ sizeLine := by
  rw [sizeLine_eq]
  exact (by decide : 1 ≤ 16777216)
theorem call_eq {o me : Expr} {nm : Str} {c d : Pos} {env : Env} (he : (c.endLine == d.line) = true) (hf : methodCallForm ([me].length + ([] : List Keyword).length) (backTo d (starEach [me] env)) (backToKw d (keywordEach [] env)) = true) :
    eval (.Call (.Attribute o nm c) [me] [] d) env = (do
      let ov ← attributeBase o nm env (eval o env)
      standAt c.atName
      let (f, first) ← holding [ov] (getMethod ov nm (do return (← importBound o env).getD true))
      callWith d f first (backTo d (starEach [me] env)) []) := by
  show (do
    let ov ← attributeBase o nm env (eval o env)
    standAt c.atName
    methodCall o nm c d env ov ([me].length + ([] : List Keyword).length) (backTo d (starEach [me] env)) (backToKw d (keywordEach [] env))) = _
  unfold methodCall
  rw [hf]
  unfold methodCallPos
  simp only [he, Bool.or_true, if_true]
  rfl
/-- an error of the class at S is what «except S» names -/
theorem exm_self {S : Addr} {K : Frag} (h1 : subIn K (.ref S) (.type "BaseException") = some true) (h2 : isClsIn K S = true) (h3 : typeIn K (.ref S) = some (.type "type")) (h4 : subIn K (.ref S) (.ref S) = some true) :
    exmOne K (.ref S) (.ref S) = some true := by
  have e1 : (subIn K (.ref S) (.type "BaseException") == some true) = true := by rw [h1] <;> rfl
  have e2 : ((clsIn K S).isSome && typeIn K (.ref S) == some (.type "type")) = true := by
    have h2' : (clsIn K S).isSome = true := h2
    rw [h2', h3] <;> rfl
  show (if (subIn K (.ref S) (.type "BaseException") == some true) = true then (if ((clsIn K S).isSome && typeIn K (.ref S) == some (.type "type")) = true then subIn K (.ref S) (.ref S) else none) else none) = some true
  rw [if_pos e1, if_pos e2]
  exact h4
section
variable {prog : Program} {w : World} {A : Around} {E : Value → Shared → Prop} {R : Result → Shared → Prop} {s : Shared} {K : Frag} {mg mb : Str → Option Value} {C fI : Addr} {nm f : Str}
/-- ValueError.__init__ bound to the exception, called -/
theorem call_mw {h : Heap} {g : Array GenState} {d : Drawn} {t : Nat} {os : OsState} {n q : Str} {N : Addr} {bs bm : List Value} {hdct : Bool} {sn : List Str} {sub : List Value} {ab : Bool} {col : Option Bool} {dd : Option Addr} {k0 k1 k2 k3 k5 : Option Value}
    {u e t0 : Addr} {rest : List Value} {Q : Value → Shared → Prop}
    (hC : h.get? C = some (excClassObj n q C N bs bm hdct sn sub ab col dd k0 k1 k2 k3 k5 "ValueError.__new__")) (he : h.get? e = some (excO C t0)) (hu : h.get? u = some (kxs_mw "ValueError.__init__" e)) (hrest : rest.length ≤ sizeLine)
    (hq : ∀ h' t1, (∀ b o, b ≠ e → h.get? b = some o → h'.get? b = some o) → h'.get? e = some (excO C t1) → Q .none ⟨h', g, d, t, os⟩) :
    wpAny (model prog w) A (call (.ref u) rest) Q E ⟨h, g, d, t, os⟩ := by
  refine wpAny_call
    (codeAny_of_tree ?_)
  show wpAny _ A.in1
    (callAny (.ref u) ⟨rest, []⟩) _ _ _
  simp only
    [callAny]
  refine wpAny_bind
    (wpAny_load hu ?_)
  simp only [kxs_mw, show (Value.type "method-wrapper" == Value.type "method" || Value.type "method-wrapper" == Value.type "builtin_function_or_method" ||
    Value.type "method-wrapper" == Value.type "method-wrapper") = true by decide, if_true]
  refine KFB.if_so (by decide) ?_
  refine wpAny_bind
    (check_bound_init PySem.F.excBase_ValueError.toExcCallFacts hC he rfl ?_)
  refine wpAny_bind (wpAny_pure
    (wpAny_pure ?_))
  refine ⟨plainId_quiet PySem.F.excBase_ValueError.init.plain _, codeAny_builtin PySem.F.excBase_ValueError.initEntry ?_⟩
  exact exc_init_tree (cls := .ref C) (t0 := t0) (dv := none) (c2 := .none) (c3 := .none) (b4 := .bool false) he hrest
    (fun h' k e' _ => hq h' _ k e')
/-- what super().__init__(..) leaves of a fresh exception at x -/
structure Sup (h h' : Heap) (x C : Addr) : Prop where
  keep : ∀ b o, b ≠ x → h.get? b = some o → h'.get? b = some o
  obj : ∃ t1, h'.get? x = some (excO C t1)
theorem sup_body {pars : Arguments} {body0 body : List Stmt} {sc : Scope} {me : Expr} {a b c d e : Pos} {env : Env} {L t0 x : Addr} {m : Str → Option Value} {y : Str} {v : Value} {rest : List Stmt} {Q : Flow → Shared → Prop} {ar : Arg} {h : Heap} {g : Array GenState} {dr : Drawn} {t : Nat} {os : OsState}
    (T : Cls1 prog K mg nm C fI pars body0 sc) (X : K.In h) (hg : h.Ns mainGlobals mg) (hb : h.Ns builtinsNs mb) (hbb : ∀ z : Str, z ≠ "__name__" → mb z = bootBuiltins z)
    (hL : h.Ns L m) (hx : h.get? x = some (excO C t0)) (hself : m "self" = some (.ref x)) (hp : (pars.posonlyargs ++ pars.args).head? = some ar) (hpa : ar.arg = "self") (hM : Msg me y v sc) (hmy : m y = some v)
    (henv : ∃ qual cda cc ccl cl cdd cld vs ccs csl file tf, env = ksEnv qual sc L fI (.ref cda) cc ∧ K.lookup cda = some ⟨ccl, cdd, .fields vs, ccs⟩ ∧ vs[2]? = some (.str file tf) ∧ ((prog.main.file : Str) == file) = true ∧
      K.lookup cc = some ⟨cl, cld, .cell (some (.ref C)), csl⟩)
    (hks : sc.names.lookup ("super" : Str) = some .globalImplicit) (hkc : sc.names.lookup ("__class__" : Str) = some .free) (hka : sc.names.lookup ("self" : Str) = some .local) (hk : sc.kind = .function) (hcd : (c.endLine == d.line) = true)
    (hq : ∀ h' tk, Sup h h' x C → _root_.PySem.wpAt (model prog w) A (.func body env) (execs rest env) Q E ⟨h', g, dr, tk, os⟩) :
    _root_.PySem.wpAt (model prog w) A (.func body env) (execs (supS me a b c d e :: rest) env) Q E ⟨h, g, dr, t, os⟩ := by
  obtain ⟨qual, cda, cc, ccl, cl, cdd, cld, vs, ccs, csl, file, tf, rfl, hcode, hvs, hfile, hcell⟩ := henv
  obtain ⟨oc, od, doc, pm, an, cda', cc', ct, osl, ccl', cl', cdd', cld', vs', ccs', csl', file', tf', hf, _⟩ := T.fn
  obtain ⟨n, q, N, bs, bm, sn, sub, ab, col, dd, k0, k1, k2, k3, k5, hC, hbm⟩ := T.cls
  have hcl : clsIn K C = some { name := n, bases := bs, mro := .ref C :: bm, ns := N, qualname := q, hasDict := true, slotNames := sn, subclasses := sub, abstract := ab, collection := col, hasDel := false } := by unfold clsIn; rw [hC] <;> rfl
  have hup : alongIn K "__init__" (((Value.ref C :: bm).dropWhile (· != .ref C)).drop 1) = some (some (.builtin "ValueError.__init__")) := by
    have z := T.up
    unfold ks_superIn at z
    rw [hcl] at z
    exact z
  obtain ⟨pl, hcall⟩ := hM.call (ksEnv qual sc L fI (.ref cda) cc) a b c d hcd
  refine ks_wpAt_execs_cons (ks_wpAt_Expr_any (ks_wpAt_MethodCall (pl := pl) ?_ hcall) (by show (sc.kind == .module && _) = false; rw [hk]; rfl) (hM.swap _ _ _ _ _ _))
  refine ks_wpAt_super_base (fd := ksFn "__init__" (nm ++ ".__init__") pars body0 sc .none .none doc pm an (.ref cda') ct cc') hks hkc (by decide) rfl (X _ _ hf) rfl hp rfl (X _ _ hcode) rfl hvs hfile T.noM ?_
  refine ks_loadName_global hk hks (loadGlobal_builtin (env := ksEnv qual sc L fI (.ref cda) cc) hg T.noS hb ((hbb _ (by decide)).trans (show bootBuiltins "super" = some (.type "super") by first | rfl | kernel_rfl)) ⟨rfl, ?_⟩)
  refine wpAny_loadName_free hk hkc (c := cc) (v := .ref C) rfl ⟨_, X _ _ hcell, rfl⟩ ?_
  rw [hpa]
  refine wpAny_loadName_local hk hka hL hself ?_
  refine ks_wpAny_isType_cls (X _ _ hC) rfl ⟨rfl, ?_⟩
  have I : InstAt h x (excO C t0) C none := ⟨hx, rfl, rfl, trivial⟩
  refine ks_wpAny_call_super (X _ _ hC) rfl hx rfl (fun c z => by cases z) (looks_mroIn X T.self) (fun h2 hso kk => ?_)
  have X2 : K.In h2 := X.keeps kk
  have hx2 := kk _ _ hx
  have I2 : InstAt h2 x (excO C t0) C none := ⟨hx2, rfl, rfl, trivial⟩
  refine kxs_getMethod kxs_ValueError hso (looks_opaque X2 T.op) (l₀ := .ref C :: bm) (fun A Q E s k q => wpAny_bind ((looks_clsIn X2 hcl) A _ E s k (wpAny_pure q))) rfl X2 hup (I2.type.andThen (looks_subIn X2 T.veC)) (ks_ne X2 I2 hcl) (by decide) ?_
  have kk3 : ∀ b o, h2.get? b = some o → (h2.push (kxs_mw "ValueError.__init__" x)).get? b = some o := fun b o z => Heap.get?_push_of_some _ z
  have hu : (h2.push (kxs_mw "ValueError.__init__" x)).get? h2.objs.size = some (kxs_mw "ValueError.__init__" x) := Heap.get?_push_at rfl rfl
  have hLx : L ≠ x := fun z => by
    obtain ⟨oL, es, ep, hoL, hdL, _⟩ := hL
    rw [z, hx] at hoL
    have z2 := Option.some.inj hoL
    subst z2
    cases hdL
  have he1 := hM.star (ksEnv qual sc L fI (.ref cda) cc)
  refine kxs_callWith (i := "ValueError.__init__") (x := x) (by rw [he1]; rfl) ?_
  rw [he1]
  refine evalArgs_plain ?_
  refine spliced_cons ?_
  refine hM.text _ _ _ _ _ _ m _ rfl (hL.keeps fun b o z => kk3 b o (kk b o z)) hmy (fun y' tk' n' => ?_)
  refine spliced_nil ?_
  refine ⟨hu, ?_⟩
  refine call_mw (X2.keeps kk3 _ _ hC) (kk3 _ _ hx2) hu (size1 _) (fun h' t1 k' e' => ?_)
  exact hq h' _ ⟨fun b o nb z => k' b o nb (kk3 b o (kk b o z)), t1, e'⟩
theorem ldL {env : Env} {m : Str → Option Value} {x : Str} {pos : Pos} {v : Value} {Q : Value → Shared → Prop} (hn : s.heap.Ns env.locals m) (hv : m x = some v) (hk : env.scope.kind = .function) (hl : env.kindOf x = some .local) (hd : (x == ("__debug__" : Str)) = false) (h : Q v s) :
    wpAny (model prog w) A (eval (.Name x pos) env) Q E s := wpAny_Name (wpAny_loadName_local hk hl hn hv h) hd
/-- how a field's name stands in such a text -/
structure Fld (f : Str) : Prop where
  bind : ∀ (q : Str) (p1 p2 : Pos) (body : List Stmt) (dV kV doc pm : Value) (an : Option Addr) (cd ct : Value) (cc : Addr) (x v : Value), bindArgs (ksFn "__init__" q (args1 f p1 p2) body (scope1 f) .none .none doc pm an cd ct cc) ⟨[x, v], []⟩ = pure [(("self" : Str), x), (f, v)]
  ne : (f == ("self" : Str)) = false
  dbg : (f == ("__debug__" : Str)) = false
  kf : (scope1 f).names.lookup f = some .local
  ks : (scope1 f).names.lookup ("super" : Str) = some .globalImplicit
  kc : (scope1 f).names.lookup ("__class__" : Str) = some .free
  cell : ∀ x ∈ (scope1 f).names, x.2 ≠ .cell
/-- what __init__ leaves of a fresh exception at x: a dict at dx that holds the field -/
structure End1 (h h' : Heap) (x C dx : Addr) (f : Str) (v : Value) : Prop where
  keep : ∀ b o, b ≠ x → h.get? b = some o → h'.get? b = some o
  obj : ∃ t1, h'.get? x = some { cls := .ref C, dict := some dx, data := .fields #[.ref t1, .none, .none, .none, .bool false, .none] }
  big : h.objs.size ≤ dx
  ne : dx ≠ x
  ns : h'.Ns1 dx (fun y => if y = f then some v else none)
/-- the __init__ of one argument -/
theorem init1 {f : Str} {p1 p2 a b c d e a' b' c' d' : Pos} {me : Expr} {x t0 : Addr} {v : Value}
    (T : Cls1 prog K mg nm C fI (args1 f p1 p2) [supS me a b c d e, keepS f a' b' c' d'] (scope1 f)) (X : K.In s.heap) (hg : s.heap.Ns mainGlobals mg) (hb : s.heap.Ns builtinsNs mb) (hbb : ∀ z : Str, z ≠ "__name__" → mb z = bootBuiltins z)
    (hlim : s.heap.NoLimit) (hx : s.heap.get? x = some (excO C t0)) (hnx : K.lookup x = none) (hroom : A.depth < recursionLimit) (hM : Msg me f v (scope1 f)) (hcdp : (c.endLine == d.line) = true) (hF : Fld f) (noN : findIn K (.ref C) f = some none)
    (hq : ∀ h' tk dx, End1 s.heap h' x C dx f v → R (.ok (.ret .none)) { s with heap := h', toks := tk }) :
    codeAny (model prog w) A (.call (.ref fI) ⟨[.ref x, v], []⟩) R s := by
  obtain ⟨oc, od, doc, pm, an, cda, cc, ct, osl, ccl, cl, cdd, cld, vs, ccs, csl, file, tf, hf, hcd, hcode, hvs, hfile, hcell⟩ := T.fn
  obtain ⟨n, q, N, bs, bm, sn, sub, ab, col, dd, k0, k1, k2, k3, k5, hC, hbm⟩ := T.cls
  have hcl : clsIn K C = some { name := n, bases := bs, mro := .ref C :: bm, ns := N, qualname := q, hasDict := true, slotNames := sn, subclasses := sub, abstract := ab, collection := col, hasDel := false } := by unfold clsIn; rw [hC] <;> rfl
  have l1 : (scope1 f).names.lookup ("self" : Str) = some .local := rfl
  have fs : ¬ f = ("self" : Str) := by simpa using hF.ne
  refine ks_codeAny_call_defAt (fd := ksFn "__init__" (nm ++ ".__init__") (args1 f p1 p2) [supS me a b c d e, keepS f a' b' c' d'] (scope1 f) .none .none doc pm an (.ref cda) ct cc) (body := [supS me a b c d e, keepS f a' b' c' d'])
    (binds := [(("self" : Str), Value.ref x), (f, v)]) hroom (X _ _ hf) rfl hlim (codeRec_of X hcd) rfl (BindsTo.of_eq (hF.bind _ _ _ _ .none .none _ _ _ _ _ _ _ _)) hF.cell (fun y hy => ?_) (fun h₁ hns kk => ?_)
  · rcases List.mem_cons.mp hy with e | hy
    · rw [e]
      exact l1
    · rw [List.mem_singleton.mp hy]
      exact hF.kf
  · obtain ⟨hp, g, dr, tk, os⟩ := s
    have X1 : K.In h₁ := X.keeps kk
    have ms : (fun y : Str => ([(("self" : Str), Value.ref x), (f, v)]).reverse.lookup y) ("self" : Str) = some (.ref x) := by
      show List.lookup ("self" : Str) [(f, v), (("self" : Str), Value.ref x)] = some (.ref x)
      have z : (("self" : Str) == f) = false := by
        rw [beq_eq_false_iff_ne]
        exact fun z => fs z.symm
      rw [List.lookup_cons, z]
      simp [List.lookup]
    have mf : (fun y : Str => ([(("self" : Str), Value.ref x), (f, v)]).reverse.lookup y) f = some v := by
      show List.lookup f [(f, v), (("self" : Str), Value.ref x)] = some v
      simp [List.lookup]
    have hL : hp.objs.size ≠ x := Nat.ne_of_gt (Heap.lt_size hx)
    refine sup_body (mb := mb) T X1 (hg.keeps kk) (hb.keeps kk) hbb hns (kk _ _ hx) ms rfl rfl hM mf ⟨_, cda, cc, ccl, cl, cdd, cld, vs, ccs, csl, file, tf, rfl, hcode, hvs, hfile, hcell⟩ hF.ks hF.kc l1 rfl hcdp (fun h2 tk2 S => ?_)
    obtain ⟨t1, hx2⟩ := S.obj
    have hns2 : h2.Ns hp.objs.size _ := hns.at fun o z => S.keep _ _ hL z
    have X2 : K.In h2 := fun b o z => S.keep b o (fun y => by
      rw [y, hnx] at z
      cases z) (X1 b o z)
    refine ks_wpAt_execs_cons (wpAt_of_wpAny ?_)
    refine plainObj_wpAny_Assign_Attribute ?_
    refine ldL (v := v) hns2 mf rfl hF.kf hF.dbg (ldL (v := .ref x) hns2 ms rfl l1 (by decide) ?_)
    refine set_plain X2 (ox := excO C t1) (od := none) ⟨hx2, rfl, rfl, trivial⟩ T.sa ?_
    refine exc_osa X2 hx2 hcl (show refsVE (.ref C :: bm) = true from hbm) rfl noN (fun h3 tk3 dx k3 dn dne hx3 hn3 => ?_)
    refine wpAt_of_wpAny (wpAny_execs_nil (hq h3 tk3 dx ⟨fun b o nb z => k3 b o nb (S.keep b o nb (kk b o z)), ⟨t1, hx3⟩, ?_, dne, hn3⟩))
    obtain ⟨oL, _, _, hoL, _⟩ := hns2
    exact Nat.le_trans (Nat.le_of_lt (Heap.lt_size hoL)) dn
/-- a made error of one argument -/
structure Own1 (h h' : Heap) (e C d : Addr) (f : Str) (v : Value) : Prop where
  keep : ∀ b o, h.get? b = some o → h'.get? b = some o
  new : h.objs.size ≤ e
  obj : ∃ oe vs, h'.get? e = some oe ∧ oe.cls = .ref C ∧ oe.dict = some d ∧ oe.data = .fields vs ∧ vs[1]? = some .none ∧ vs[2]? = some .none
  big : h.objs.size ≤ d
  ne : d ≠ e
  ns : h'.Ns1 d (fun y => if y = f then some v else none)
theorem fresh_of {hp : Heap} (X : K.In hp) {n : Nat} (h : hp.objs.size ≤ n) : K.lookup n = none := by
  cases e : K.lookup n with
  | none => rfl
  | some o => exact absurd (Nat.lt_of_lt_of_le (Heap.lt_size (X _ _ e)) h) (Nat.lt_irrefl _)
theorem made1 {f : Str} {p1 p2 a b c d e a' b' c' d' : Pos} {me : Expr} {v : Value}
    (T : Cls1 prog K mg nm C fI (args1 f p1 p2) [supS me a b c d e, keepS f a' b' c' d'] (scope1 f)) (X : K.In s.heap) (hg : s.heap.Ns mainGlobals mg) (hb : s.heap.Ns builtinsNs mb) (hbb : ∀ z : Str, z ≠ "__name__" → mb z = bootBuiltins z)
    (hlim : s.heap.NoLimit) (hroom : A.depth + 1 < recursionLimit) (hM : Msg me f v (scope1 f)) (hcdp : (c.endLine == d.line) = true) (hF : Fld f) (noN : findIn K (.ref C) f = some none)
    (hq : ∀ h' tk x dx, Own1 s.heap h' x C dx f v → R (.ok (.ret (.ref x))) { s with heap := h', toks := tk }) : codeAny (model prog w) A (.call (.ref C) ⟨[v], []⟩) R s := by
  obtain ⟨n, q, N, bs, bm, sn, sub, ab, col, dd, k0, k1, k2, k3, k5, hC, hbm⟩ := T.cls
  obtain ⟨hp, g, dr, tk, os⟩ := s
  have k : ∀ b o, hp.get? b = some o → ((hp.push (kdv_tup [v])).push (excO C hp.objs.size)).get? b = some o := fun b o z => Heap.get?_push_of_some _ (Heap.get?_push_of_some _ z)
  have hget : ((hp.push (kdv_tup [v])).push (excO C hp.objs.size)).get? (hp.objs.size + 1) = some (excO C hp.objs.size) := by heap_get
  refine call_own PySem.F.excBase_ValueError (fun Y => refsVE_contains Y bm hbm) (X _ _ hC) (looks_findIn X T.iC) (fun self => bind_fn X self T.tC) (size1 v) ?_
  refine init1 (mb := mb) (s := ⟨(hp.push (kdv_tup [v])).push (excO C hp.objs.size), g, dr, tk, os⟩) T (X.keeps k) (hg.keeps k) (hb.keeps k) hbb (hlim.keeps k) hget (fresh_of X (Nat.le_succ _)) hroom hM hcdp hF noN fun h' tk' dx Z => ?_
  have old : ∀ b o, hp.get? b = some o → h'.get? b = some o := fun b o z => Z.keep b o (Nat.ne_of_lt (Nat.lt_succ_of_lt (Heap.lt_size z))) (k b o z)
  have z : hp.objs.size + 1 + 1 ≤ dx := by
    have q := Z.big
    rw [Heap.size_push, Heap.size_push] at q
    exact q
  obtain ⟨t1, ho⟩ := Z.obj
  exact ⟨rfl, hq h' tk' (hp.objs.size + 1) dx ⟨old, Nat.le_succ _, ⟨_, _, ho, rfl, rfl, rfl, rfl, rfl⟩, Nat.le_trans (Nat.le_trans (Nat.le_succ _) (Nat.le_succ _)) z, Z.ne, Z.ns⟩⟩
end
/-! ### the texts of the messages -/
section
variable {f : Str} {sc : Scope}
/-- one part behind another, the field in {..!r} or {..}: a text | an int -/
theorem part_s {prog : Program} {w : World} {A : Around} {E : Value → Shared → Prop} {env : Env} {s : Shared} {m : Str → Option Value} {y : Str} {t : Tok} {p q : Pos} {Q : Value → Shared → Prop} (hF : sc.names.lookup f = some .local) (hk : sc.kind = .function) (hd : (f == ("__debug__" : Str)) = false) (he : env.scope = sc)
    (hn : s.heap.Ns env.locals m) (hv : m f = some (.str y t)) (hz : y.length ≤ sizeLine) (h : ∀ tk n, Q (.str y tk) { s with toks := n }) : wpAny (model prog w) A (eval (.FormattedValue (.Name f p) (-1) none q) env) Q E s := by
  refine wpAny_FormattedValue_plain (ldL hn hv (by rw [he]; exact hk) (by show env.scope.names.lookup f = _; rw [he]; exact hF) hd ?_)
  exact wpAny_formatField_str (h _ s.toks) (h _ _) hz
theorem part_r {prog : Program} {w : World} {A : Around} {E : Value → Shared → Prop} {env : Env} {s : Shared} {m : Str → Option Value} {y : Str} {t : Tok} {p q : Pos} {Q : Value → Shared → Prop} (hF : sc.names.lookup f = some .local) (hk : sc.kind = .function) (hd : (f == ("__debug__" : Str)) = false) (he : env.scope = sc)
    (hn : s.heap.Ns env.locals m) (hv : m f = some (.str y t)) (hz : (reprText y).length ≤ sizeLine) (h : ∀ tk n, Q (.str (reprText y) tk) { s with toks := n }) : wpAny (model prog w) A (eval (.FormattedValue (.Name f p) 114 none q) env) Q E s := by
  refine wpAny_FormattedValue_repr (ldL hn hv (by rw [he]; exact hk) (by show env.scope.names.lookup f = _; rw [he]; exact hF) hd ?_)
  exact pyReprObj_str (wpAny_formatField_str (h _ _) (h _ _) hz) hz
theorem part_i {prog : Program} {w : World} {A : Around} {E : Value → Shared → Prop} {env : Env} {s : Shared} {m : Str → Option Value} {i : Int} {t : Tok} {p q : Pos} {Q : Value → Shared → Prop} (hF : sc.names.lookup f = some .local) (hk : sc.kind = .function) (hd : (f == ("__debug__" : Str)) = false) (he : env.scope = sc)
    (hn : s.heap.Ns env.locals m) (hv : m f = some (.int i t)) (hz : i.natAbs.log2 < 1920) (h : ∀ tk n, Q (.str (toString i) tk) { s with toks := n }) : wpAny (model prog w) A (eval (.FormattedValue (.Name f p) (-1) none q) env) Q E s := by
  refine wpAny_FormattedValue_plain (ldL hn hv (by rw [he]; exact hk) (by show env.scope.names.lookup f = _; rw [he]; exact hF) hd ?_)
  exact wpAny_formatField_int hz (h _ _)
theorem app_le {a b : Str} {n m : Nat} (h1 : a.length ≤ n) (h2 : b.length ≤ m) : (a ++ b).length ≤ n + m := by
  have e : (a ++ b).length = a.length + b.length := Array.size_append ..
  omega
/-- f'c{f!r}' of a text -/
theorem msg_cr {y : Str} {t : Tok} {c : Str} {p q p1 p2 : Pos} {k : Nat} (hF : Fld f) (hc : c.length ≤ 1000) (hz : (reprText y).length ≤ 1000) : Msg (.JoinedStr [.Constant (.str c) k p1, .FormattedValue (.Name f p) 114 none q] p2) f (.str y t) (scope1 f) where
  call := fun env a b c' d e => ⟨_, call_eq e rfl⟩
  star := fun env => rfl
  swap := fun _ _ _ _ _ _ => rfl
  text := fun prog w A E env s m Q he hn hv h => by
    have z0 : (Str.empty ++ c).length ≤ 0 + 1000 := app_le (Nat.le_refl _) hc
    have z1 : (Str.empty ++ c ++ reprText y).length ≤ 0 + 1000 + 1000 := app_le z0 hz
    have b0 : (2000 : Nat) ≤ sizeLine := by rw [sizeLine_eq]; decide
    refine wpAny_JoinedStr ?_
    refine wpAny_Constant_str ⟨c, _, rfl, Nat.le_trans z0 (Nat.le_trans (by decide) b0), ?_⟩
    refine part_r (sc := scope1 f) hF.kf rfl hF.dbg he (s := { s with toks := s.toks + 1 }) hn hv (Nat.le_trans hz (Nat.le_trans (by decide) b0)) fun tk n => ⟨_, _, rfl, Nat.le_trans z1 b0, ?_⟩
    exact ⟨Nat.le_trans z1 b0, h _ _ _⟩
/-- f'c{f}' of an int -/
theorem msg_ci {i : Int} {t : Tok} {c : Str} {p q p1 p2 : Pos} {k : Nat} (hF : Fld f) (hc : c.length ≤ 1000) (hz : i.natAbs.log2 < 1920) (hs : (toString i : Str).length ≤ 1000) : Msg (.JoinedStr [.Constant (.str c) k p1, .FormattedValue (.Name f p) (-1) none q] p2) f (.int i t) (scope1 f) where
  call := fun env a b c' d e => ⟨_, call_eq e rfl⟩
  star := fun env => rfl
  swap := fun _ _ _ _ _ _ => rfl
  text := fun prog w A E env s m Q he hn hv h => by
    have z0 : (Str.empty ++ c).length ≤ 0 + 1000 := app_le (Nat.le_refl _) hc
    have z1 : (Str.empty ++ c ++ (toString i : Str)).length ≤ 0 + 1000 + 1000 := app_le z0 hs
    have b0 : (2000 : Nat) ≤ sizeLine := by rw [sizeLine_eq]; decide
    refine wpAny_JoinedStr ?_
    refine wpAny_Constant_str ⟨c, _, rfl, Nat.le_trans z0 (Nat.le_trans (by decide) b0), ?_⟩
    refine part_i (sc := scope1 f) hF.kf rfl hF.dbg he (s := { s with toks := s.toks + 1 }) hn hv hz fun tk n => ⟨_, _, rfl, Nat.le_trans z1 b0, ?_⟩
    exact ⟨Nat.le_trans z1 b0, h _ _ _⟩
/-- f'{f}c' of a text -/
theorem msg_sc {y : Str} {t : Tok} {c : Str} {p q p1 p2 : Pos} {k : Nat} (hF : Fld f) (hc : c.length ≤ 1000) (hz : y.length ≤ 1000) : Msg (.JoinedStr [.FormattedValue (.Name f p) (-1) none q, .Constant (.str c) k p1] p2) f (.str y t) (scope1 f) where
  call := fun env a b c' d e => ⟨_, call_eq e rfl⟩
  star := fun env => rfl
  swap := fun _ _ _ _ _ _ => rfl
  text := fun prog w A E env s m Q he hn hv h => by
    have z0 : (Str.empty ++ y).length ≤ 0 + 1000 := app_le (Nat.le_refl _) hz
    have z1 : (Str.empty ++ y ++ c).length ≤ 0 + 1000 + 1000 := app_le z0 hc
    have b0 : (2000 : Nat) ≤ sizeLine := by rw [sizeLine_eq]; decide
    refine wpAny_JoinedStr ?_
    refine part_s (sc := scope1 f) hF.kf rfl hF.dbg he hn hv (Nat.le_trans hz (Nat.le_trans (by decide) b0)) fun tk n => ⟨_, _, rfl, Nat.le_trans z0 (Nat.le_trans (by decide) b0), ?_⟩
    refine wpAny_Constant_str ⟨c, _, rfl, Nat.le_trans z1 b0, ?_⟩
    exact ⟨Nat.le_trans z1 b0, h _ _ _⟩
end
end Er
namespace L2
open PySem PySem.Spec PyProof.Rows Er
/-- isinstance(e, c), e the error that the suite holds, with a dict of its own -/
def rIsF (K : PySem.W.Frag) (D a : Addr) (cls : Value) (dd : Option Addr) : List V → Hp → VK → Prop := fun xs H Q => cls = .ref D ∧ ∃ (c : V) (cv : Value) (b : Bool), xs = [.ref a, c] ∧ (∀ u, RelV c u → u = cv) ∧ (∀ dx, dd = some dx → ∃ fs, H dx = some (.xd fs)) ∧ PySem.W.kitOne K (.ref D) cv = some b ∧ Q (.bl b) H
theorem call_isF {X : Cx} {a D : Addr} {cls : Value} {dd : Option Addr} {oe : Obj} {pn : List (Addr × Obj)} (C : ExcC X.K D) (hz : Zc cls dd oe) (hf : ∃ vs, oe.data = .fields vs) : CallR (X.suite a ((a, oe) :: pn)) (.builtin "isinstance") (rIsF X.K D a cls dd) := by
  intro pins s σ H xs us Q I r h
  obtain ⟨ecls, c, cv, b, rfl, hcv, hdd, e, q⟩ := h
  subst ecls
  cases r with
  | cons rx rr =>
    cases rr with
    | cons rt rr =>
      cases rr
      cases rx
      have ec := hcv _ rt
      subst ec
      obtain ⟨hget, _⟩ := I.pin (a, oe) (List.mem_append.mpr (.inl List.mem_cons_self))
      obtain ⟨vs, hv⟩ := hf
      have hcl : (PySem.W.clsIn X.K D).isSome = true := by
        obtain ⟨cd, hc, _⟩ := PySem.W.any_some C.hd
        rw [hc]
        rfl
      have J : ∃ od, PySem.W.InstAt s.heap a oe D od := by
        obtain ⟨oc, od, oda, osl⟩ := oe
        obtain ⟨h1, h2⟩ := hz
        dsimp only at h1 h2 hv
        subst h1 h2 hv
        cases od with
        | none => exact ⟨none, hget, rfl, rfl, trivial⟩
        | some dx =>
          obtain ⟨fs, hx⟩ := hdd dx rfl
          have ok : ObjOk X.prog X.w H s.heap dx (.xd fs) := I.hok dx _ hx
          obtain ⟨mA, hns, hr⟩ := ok
          obtain ⟨od, ho, hl⟩ := lookIn_ns hns
          exact ⟨some od, hget, rfl, rfl, ho⟩
      obtain ⟨od, J⟩ := J
      exact PySem.W.kia_one (PySem.W.kitx_exc hcl C.hg C.hk C.hs C.ha C.hn C.ht C.hm) I.kIn J e (fun z => nomatch z) fun tk => ⟨.bl b, H, I.kept (t' := tk) fun _ _ z => z, rfl, q⟩
theorem relO_f1 {v : V} {v' : Value} (r : RelV v v') (f g : Str) : RelO (List.lookup g [(f, v)]) (if g = f then some v' else none) := by
  by_cases hw : g = f
  · rw [if_pos hw, hw]
    have q : List.lookup f [(f, v)] = some v := by simp [List.lookup]
    rw [q]
    exact r
  · rw [if_neg hw]
    have qw : (g == f) = false := by simpa using hw
    have q2 : List.lookup g [(f, v)] = none := by simp [List.lookup, qw]
    rw [q2]
    trivial
section
variable {X : Cx} {C fI : Addr} {nm f : Str} {me : Expr} {p1 p2 a b c d e a' b' c' d' : Pos}
def tMk1 (C : Addr) (f : Str) (me : Expr) (ta : TA) : St → Hp → XK → Prop := fun σ H Q => ta σ H fun vs H1 => ∃ v, vs = [v] ∧ (∀ u, RelV v u → Msg me f u (scope1 f)) ∧ ∀ d, H1 d = none → Q (.ref C) (some d) (upd H1 d (.xd [(f, v)]))
theorem pmk1 {x : Expr} {ta : TA} {p pos : Pos} {k : Nat} (T : Cls1 X.prog X.K X.mg nm C fI (args1 f p1 p2) [supS me a b c d e, keepS f a' b' c' d'] (scope1 f)) (hcdp : (c.endLine == d.line) = true) (hF : Fld f) (noN : PySem.W.findIn X.K (.ref C) f = some none) (hr : Room k X.A) (ha : PA X [x] ta) (hg : Gl X nm) (hdb : (nm == ("__debug__" : Str)) = false)
    (he : starEach (x :: []) X.env = (false, eval x X.env) :: starEach [] X.env := by rfl) (hpl : (backTo pos (starEach [] X.env)).any (·.1) = false := by rfl) :
    L2N.PMk X (.Call (.Name nm p) [x] [] pos) (tMk1 C f me ta) := by
  intro pins s σ H Q I h
  refine wpAny_Call_Name_kw (ld_glob I hg T.gC ?_ hdb)
  refine PySem.W.callWith_K (h₀ := X.base) I.ok.mod.kin T.kC (thn (ha.run pos pins s σ H _ I h) fun us s1 hh => ?_) he hpl
  obtain ⟨vs, H1, I1, r1, v, ev, hM, q1⟩ := hh
  subst ev
  refine ⟨I1.kIn, ?_⟩
  cases r1 with
  | cons rv rn =>
    rename_i v' us'
    cases rn
    show wpAny _ _ (call (.ref C) [v']) _ _ _
    have hlim := I1.nolimit
    obtain ⟨mb, hb1, hb2⟩ := I1.mod.blt
    have hgl := I1.mod.glob.keeps I1.bk
    have hbl := hb1.keeps I1.bk
    obtain ⟨hp, g, dr, tk, os⟩ := s1
    refine wpAny_call (made1 (mb := mb) T I1.kIn hgl hbl hb2 hlim (by have := hr.dp; omega) (hM v' rv) hcdp hF noN fun h' tk' e d M => ?_)
    show L2N.MkP X pins σ Q (.ref e) ⟨h', g, dr, tk', os⟩
    obtain ⟨oe, fv, hoe, hc, hd, hdat, h1, h2⟩ := M.obj
    have hz : L2N.Zn (.ref C) _ oe := ⟨hc, hd, fun vs' e' => by
      rw [hdat] at e'
      cases e'
      exact h2⟩
    have hns := M.ns
    obtain ⟨G', g1, g2⟩ := restrict h' fun b => decide (b ≠ e)
    have gk : ∀ b, b ≠ e → G'.get? b = h'.get? b := fun b hb => g1 b (decide_eq_true hb)
    have ge : G'.get? e = none := g2 e (by simp)
    have old : ∀ b o, hp.get? b = some o → G'.get? b = some o := fun b o q => (gk b (Nat.ne_of_lt (Nat.lt_of_lt_of_le (Heap.lt_size q) M.new))).trans (M.keep b o q)
    have ob : ObjOk X.prog X.w (upd H1 d (.xd [(f, v)])) G' d (.xd [(f, v)]) :=
      ⟨_, hns.at (fun o q => (gk d M.ne).trans q), fun g => relO_f1 rv f g⟩
    have J : Inv X pins σ (upd H1 d (.xd [(f, v)])) ⟨G', g, dr, tk', os⟩ := I1.laid (t' := tk') old M.big ob
    refine ⟨e, oe, fv, ⟨G', g, dr, tk', os⟩, _, .ref C, some d, rfl, J, fun b o q => ?_, ge, hoe, hz, hdat, h1, ?_, rfl, I1.bare, raises_own T.exC T.tyC, q1 d (I1.hok.fresh M.big)⟩
    · by_cases hb : b = e
      · have q' : G'.get? b = some o := q
        rw [hb, ge] at q'
        cases q'
      · exact (gk b hb).symm.trans q
    · rw [upd_ne (Ne.symm M.ne)]
      exact I1.hok.fresh M.new
/-- e.f, e the error that the suite holds (at a0; its class cls, its dict dd) -/
def tByF (C : Addr) (a0 : Addr) (cls : Value) (dd : Option Addr) (f : Str) (te : TE) : TE := fun σ H Q => te σ H fun x H1 => x = .ref a0 ∧ cls = .ref C ∧ ∃ (dx : Addr) (v : V), dd = some dx ∧ H1 dx = some (.xd [(f, v)]) ∧ Q v H1
theorem pe_byF {pars : Arguments} {body : List Stmt} {sc : Scope} {a0 : Addr} {oe : Obj} {cls : Value} {dd : Option Addr} {pn : List (Addr × Obj)} {x : Expr} {te : TE} {pos : Pos} (T : Cls1 X.prog X.K X.mg nm C fI pars body sc) (noN : PySem.W.findIn X.K (.ref C) f = some none) (hz : Zc cls dd oe) (hf : ∃ vs, oe.data = .fields vs) (he : PE (X.suite a0 ((a0, oe) :: pn)) x te)
    (hb : attributeBase x f X.env (eval x X.env) = eval x X.env := by rfl) :
    PE (X.suite a0 ((a0, oe) :: pn)) (.Attribute x f pos) (tByF C a0 cls dd f te) := by
  refine ⟨fun pins s σ H Q I h => ?_⟩
  refine attr_of hb (thn (he.run pins s σ H _ I h) fun u s1 hh => ?_)
  obtain ⟨x, H1, I1, rx, ex, ec, dx, v, ed, ea, q⟩ := hh
  subst ex
  obtain rfl : u = Value.ref a0 := rx
  subst ec
  subst ed
  obtain ⟨ha, _⟩ := I1.pin (a0, oe) (List.mem_append_left _ List.mem_cons_self)
  obtain ⟨vs, hd⟩ := hf
  have hx : ObjOk X.prog X.w H1 s1.heap dx (.xd [(f, v)]) := I1.hok dx _ ea
  obtain ⟨mA, hns, hr⟩ := hx
  obtain ⟨od, ho, hl⟩ := lookIn_ns hns
  have l : List.lookup f [(f, v)] = some v := by simp [List.lookup]
  obtain ⟨u, hu, ru⟩ := RelO.some_of (v := v) (o := mA f) (by rw [← l]; exact hr f)
  have J : PySem.W.InstAt s1.heap a0 oe C (some od) := ⟨ha, hz.1, by unfold PySem.W.notCls; rw [hd] <;> rfl, by rw [hz.2]; exact ho⟩
  exact HandSPX.exc_get I1.kIn J T.ga T.gg T.exC (PySem.W.findObj_own T.hdC noN rfl (by rw [hl, hu])) (handed_of ru) ⟨v, H1, I1.tok _, ru, q⟩
end
/-! ### defs that let out errors whose context is None; defs called within an except suite -/
section
variable {P : Program} {w : World} {K : PySem.W.Frag} {mg : Str → Option Value} {base : Heap}
theorem Fun.okN {x qual : Str} {st : Stmt} {f : Addr} {fd : FuncData} {N ps : List Str} {k : Nat} {sp : Sp} (F : Fun K x qual st f fd) (S : FnScope N ps (defScope st)) (len : ∀ vs H Q E, sp vs H Q E → vs.length = ps.length)
    (hbody : ∀ (cdv : Value) (A : Around) (outer : List Env) (s : Shared) (H : Hp) (vs : List V) (Q : VK) (E : XK), Room k (A.deeper (envOfC qual (defScope st) s.heap.objs.size f cdv)) → sp vs H Q E →
      ∃ t, PSs (cxOf (L2N.CX P w) P w K mg base N qual (defScope st) f cdv A outer s H E) (defBody st) t ∧ t { nx := fun _ H' => Q .non H', rt := Q } (start N vs) H) : FnOk P w K mg base (L2N.CX P w) (k + 1) f fd ps sp := by
  obtain ⟨oc, od, kV, doc, pm, an, cdv, ct, osl, rfl, lk, hcd⟩ := F.ex
  exact fn_of lk hcd S len fun A outer s H vs Q E hr hsp => hbody cdv A outer s H vs Q E hr hsp
end
section
variable {X : Cx}
/-- of a callee that raises nothing here -/
theorem passN : Passes (L2N.CX X.prog X.w) X E0 := fun _ _ _ _ _ _ _ h => by
  obtain ⟨_, _, _, _, _, _, _, _, _, _, _, _, z⟩ := h
  exact z.elim
theorem pass0H {E : St → XK} : ∀ σ, PassesAt CX0 X σ (E σ) := fun _ _ _ _ _ _ _ h => h.elim
theorem room_suite {k : Nat} {a : Addr} {pn : List (Addr × Obj)} (r : Room k X.A) : L2H.RoomH k (X.suite a pn).A := ⟨r.dp, r.un⟩
end
end L2
/-! Own objects: str(o) by the class's own __str__; // by any divisor other than zero; errors of a call in a try body whatever the slots hold. -/
namespace L2
open PySem PySem.Spec PyProof.Rows Er
section
variable {X : Cx}
/-- the same place, n units further in -/
theorem Inv.in1 {pins : List (Addr × Obj)} {σ : St} {H : Hp} {s : Shared} (I : Inv X pins σ H s) (n : Nat) : Inv { X with A := { X.A with units := n } } pins σ H s :=
  ⟨⟨I.ok.mod, I.ok.kind, I.ok.glob, I.ok.blt, I.ok.above, I.ok.inj, I.ok.has, I.ok.cab, I.ok.hd, I.ok.frames, I.ok.stk, I.ok.exf, I.ok.bs, I.ok.bsz, I.ok.noex, I.ok.exfs, I.ok.funs, I.ok.frf⟩,
    I.os, I.bare, I.base, I.loc, I.cell, I.free, I.freeC, I.pin, I.hok, I.len⟩
theorem Inv.out1 {pins : List (Addr × Obj)} {σ : St} {H : Hp} {s : Shared} {n : Nat} (I : Inv { X with A := { X.A with units := n } } pins σ H s) : Inv X pins σ H s :=
  ⟨⟨I.ok.mod, I.ok.kind, I.ok.glob, I.ok.blt, I.ok.above, I.ok.inj, I.ok.has, I.ok.cab, I.ok.hd, I.ok.frames, I.ok.stk, I.ok.exf, I.ok.bs, I.ok.bsz, I.ok.noex, I.ok.exfs, I.ok.funs, I.ok.frf⟩,
    I.os, I.bare, I.base, I.loc, I.cell, I.free, I.freeC, I.pin, I.hok, I.len⟩
theorem inst_of {pins : List (Addr × Obj)} {σ : St} {H : Hp} {s : Shared} (I : Inv X pins σ H s) {a C dx : Addr} {fs : List (Str × V)} (h : H a = some (.ins C dx fs)) : ∃ ox od, PySem.W.InstAt s.heap a ox C od := by
  obtain ⟨mA, O, _, _, _, _⟩ := ins_get I.hok h
  obtain ⟨od, ho, _⟩ := lookIn_ns O.ns
  exact ⟨_, some od, O.obj, rfl, rfl, ho⟩
/-- str(o), o of the class C with its own __str__ -/
def rStrO (C : Addr) (sp : Sp) (E : XK) : List V → Hp → VK → Prop := fun xs H Q => ∃ a dx fs, xs = [.ref a] ∧ H a = some (.ins C dx fs) ∧ sp [.ref a] H (fun v H' => ∃ z, v = .str z ∧ Q v H') E
theorem call_strO {CX : CXT} {k : Nat} {C g : Addr} {fd : FuncData} {sp : Sp} {E : XK} (hf : PySem.W.findIn X.K (.ref C) "__str__" = some (some (.ref g))) (hi : PySem.W.isFn X.K (.ref g) = true)
    (F : FnOk X.prog X.w X.K X.mg X.base CX k g fd ["self"] sp) (hr : Room (k + 1) X.A) (b : Binds X.K fd ["self"] []) (hx : Passes CX X E) : CallR X (.type "str") (rStrO C sp E) := by
  intro pins s σ H xs us Q I r h
  obtain ⟨a, dx, fs, rfl, ha, h⟩ := h
  cases r with
  | cons rx rr =>
    cases rr
    cases rx
    obtain ⟨ox, od, J⟩ := inst_of I ha
    have hu := hr.un
    refine PySem.W.kso_call (by show X.A.units + 1 + 1 < cLine; omega) I.kIn J hf hi ?_
    have hr' : Room k ({ X.A with units := X.A.units + 1 + 1 } : Around) := ⟨hr.hd, by have := hr.dp; show X.A.depth + 3 * k + 5 < _; omega, by show X.A.units + 1 + 1 + 16 * k + 200 < cLine; omega⟩
    have z := run_fn (X := { X with A := { X.A with units := X.A.units + 1 + 1 } }) (CX := CX) (Q := fun v H' => ∃ z, v = .str z ∧ Q v H') (vs := [.ref a]) (us := [.ref a]) F hr' b .nil (fun pins σ H s e s' I' h' => hx pins σ H s e s' I'.out1 h') (I.in1 _) (.cons rfl .nil) h
    refine thn z fun u s1 hh => ?_
    obtain ⟨v, H1, I1, rv, y, ev, q⟩ := hh
    subst ev
    obtain ⟨tk, rfl⟩ := rv
    exact ⟨.str y, H1, I1.out1, ⟨tk, rfl⟩, q⟩
end
end L2
/-! A static method called by its class's name; a display whose first item is a written text and more (so that a token is out behind it). -/
namespace L2
open PySem PySem.Spec PyProof.Rows Er
end L2
namespace Er
open PySem PySem.W PySem.Calls PyProof.Rows PySem.HandSPX
end Er
/-! Own operators: o + o, o + 3, 3 + o, o += .., -o, o < o, .. by the class's own methods. -/
namespace L2
open PySem PySem.Spec PyProof.Rows Er
section
variable {prog : Program} {w : World} {A : Around} {E : Value → Shared → Prop} {s : Shared} {K : PySem.W.Frag} {x C dx f g : Addr} {ox : Obj} {od : Option Obj} {Q : Value → Shared → Prop} {i : Int} {t : Tok}
/-- the class at C stands right above object -/
def mro2 (K : PySem.W.Frag) (C : Addr) : Bool := (PySem.W.clsIn K C).any fun cd => cd.mro == [Value.ref C, Value.type "object"]
end
section
variable {X : Cx}
theorem back_of {pins : List (Addr × Obj)} {σ : St} {Q : VK} {u : Value} {s1 : Shared} (h : EP X pins σ Q u s1) : PySem.W.CmpBack (EP X pins σ Q) u s1 := by
  have h0 := h
  obtain ⟨v, H, I, r, q⟩ := h
  cases u with
  | notImplemented => cases v <;> first | (cases r; done) | (obtain ⟨_, z⟩ := r; cases z)
  | _ => exact h0
theorem inst_of' {pins : List (Addr × Obj)} {σ : St} {H : Hp} {s : Shared} (I : Inv X pins σ H s) {a C dx : Addr} {fs : List (Str × V)} (h : H a = some (.ins C dx fs)) : ∃ od, PySem.W.InstAt s.heap a (PySem.W.instObj C dx) C od := by
  obtain ⟨mA, O, _, _, _, _⟩ := ins_get I.hok h
  obtain ⟨od, ho, _⟩ := lookIn_ns O.ns
  exact ⟨some od, O.obj, rfl, rfl, ho⟩
variable {CX1 CX2 : CXT} {C f g : Addr} {fd gd : FuncData} {k k2 : Nat} {spF spR : Sp} {E E2 : XK} {op : Operator} {gi : Int → Int → V}
end
end L2
/-! Comparisons with own objects on either side; abs(o), bool(o) by the class's own methods. -/
namespace L2
open PySem PySem.Spec PyProof.Rows Er
end L2
/-! A set of texts: set(list of texts), sorted(set), len(set), in. -/
namespace L2
open PySem PySem.Spec PyProof.Rows Er PySem.Froz
abbrev newS (w : World) : Obj := { cls := .type "set", dict := none, data := .set #[] 0 (.fresh 0 0 (!w.params.followText "set-order")) }
/-- one more text -/
def put1 (l : List Str) (k : Str) : List Str := if k ∈ l then l else k :: l
def putL (xs : List Str) : List Str := xs.foldl put1 []
theorem put1_nd {l : List Str} {k : Str} (h : l.Nodup) : (put1 l k).Nodup := by
  unfold put1; split
  · exact h
  · rename_i c; exact List.nodup_cons.mpr ⟨c, h⟩
theorem put1_mem {l : List Str} {k x : Str} : x ∈ put1 l k ↔ x ∈ l ∨ x = k := by
  unfold put1; split
  · rename_i c; exact ⟨.inl, fun z => z.elim id fun e => e ▸ c⟩
  · rw [List.mem_cons]; exact Or.comm
theorem put1_len {l : List Str} {k : Str} : (put1 l k).length ≤ l.length + 1 := by
  unfold put1; split
  · omega
  · simp
theorem putL_step (xs : List Str) (k : Str) : putL (xs ++ [k]) = put1 (putL xs) k := by unfold putL; rw [List.foldl_append] <;> rfl
theorem foldl_put1 : ∀ (xs l : List Str), l.Nodup → (xs.foldl put1 l).Nodup ∧ (∀ x, x ∈ xs.foldl put1 l ↔ x ∈ l ∨ x ∈ xs) ∧ (xs.foldl put1 l).length ≤ l.length + xs.length
  | [], l, h => ⟨h, fun x => by simp, by simp⟩
  | k :: xs, l, h => by
    obtain ⟨a, b, c⟩ := foldl_put1 xs (put1 l k) (put1_nd h)
    refine ⟨a, fun x => ?_, ?_⟩
    · rw [List.foldl_cons, b x, put1_mem, List.mem_cons, or_assoc]
    · have := put1_len (l := l) (k := k)
      rw [List.foldl_cons, List.length_cons]; omega
theorem putL_nd (xs : List Str) : (putL xs).Nodup := (foldl_put1 xs [] .nil).1
theorem putL_mem {xs : List Str} {x : Str} : x ∈ putL xs ↔ x ∈ xs := by
  have h := (foldl_put1 xs [] .nil).2.1 x
  simpa [putL] using h
theorem putL_len (xs : List Str) : (putL xs).length ≤ xs.length := by
  have h := (foldl_put1 xs [] .nil).2.2
  simpa [putL] using h
structure SetS (P : Program) (w : World) (h : Heap) (a : Addr) (l : List Str) : Prop where
  it : ∃ D : SD, h.get? a = some (sObj "set" D) ∧ TxOk P w D l ∧ Ris D.2.2.place.toList ∧ (w.params.followText "set-order" = true ∨ D.2.2.led = true)
section
variable {P : Program} {w : World} {A : Around} {E : Value → Shared → Prop} {s : Shared}
theorem SetS.keep {h h' : Heap} {a : Addr} {l : List Str} (R : SetS P w h a l) (k : ∀ o, h.get? a = some o → h'.get? a = some o) : SetS P w h' a l := by
  obtain ⟨D, x, y⟩ := R.it
  exact ⟨D, k _ x, y⟩
theorem setS_new {h : Heap} {a : Addr} (ho : h.get? a = some (newS w)) : SetS P w h a [] :=
  ⟨(#[], 0, .fresh 0 0 (!w.params.followText "set-order")), ho, TxOk.nil (by rfl), List.Pairwise.nil, by
    show _ ∨ (!w.params.followText "set-order") = true
    cases w.params.followText "set-order" <;> simp⟩
theorem tail_ris {ep : Nat} {es : Array (Int × Value)} {t : SetTable} {b : Bool} (r : Ris t.place.toList) : Ris (tailTx ep es t b).2.2.place.toList := by
  unfold tailTx; split
  · exact relayAll_ris _ _ _
  · exact r
theorem tail_led {ep : Nat} {es : Array (Int × Value)} {t : SetTable} {b : Bool} : (tailTx ep es t b).2.2.led = t.led := by
  unfold tailTx; split
  · exact relayAll_led _ _ _
  · rfl
theorem add_ris {D : SD} (h : Int) (v : Value) (r : Ris D.2.2.place.toList) : Ris (addTx h v D).2.2.place.toList := by
  unfold addTx
  refine tail_ris ?_
  have z := layNew_ris D.2.2 D.1 h v r
  split <;> exact z
theorem add_led {D : SD} (h : Int) (v : Value) : (addTx h v D).2.2.led = D.2.2.led := by
  unfold addTx
  rw [tail_led]
  have z := layNew_led D.2.2 D.1 h v
  split <;> exact z
/-- a text that the set has already -/
theorem old_x {a : Addr} {D : SD} {l : List Str} {k : Str} {u : Tok} {Q : Bool → Shared → Prop} (ho : s.heap.get? a = some (sObj "set" D)) (F : TxOk P w D l) (hk : k ∈ l) (hb : l.length < scanBound)
    (h : Q false s) : wpAny (model P w) A (setAddHashed a (.str k u) (hashStr w k)) Q E s := by
  obtain ⟨es, ep, t⟩ := D
  have dat : (sObj "set" (es, ep, t)).data = .set es ep t := rfl
  have few : es.size < scanBound := by have z : es.size = l.length := F.sz; omega
  have key : (strKind P w).is k (.str k u) = true := is_str k u
  unfold setAddHashed setAddHashedIn
  apply wpAny_holding; apply wpAny_bind
  refine wpAny_setState_of ho dat F.fit ?_
  simp only [byScan_of (x := Value.str k u) rfl few F.el, ↓reduceIte]
  unfold setAddByScan
  apply wpAny_bind; apply wpAny_bind; apply wpAny_rule; apply wpAny_bind
  refine wpAny_setScan_of (knd := strKind P w) (k := k) key ho dat F.fit F.el ?_
  obtain ⟨e, he, pe⟩ := (F.mem k).mp hk
  cases hr : List.findIdx? (fun e => (strKind P w).is k e.2) es.toList with
  | none => exact absurd (List.findIdx?_eq_none_iff.mp hr e he) (by rw [pe]; decide)
  | some j => exact wpAny_pure (wpAny_pure h)
theorem setS_add {a : Addr} {l : List Str} {k : Str} {u : Tok} {Q : Bool → Shared → Prop} (R : SetS P w s.heap a l) (hb : l.length + 1 < scanBound)
    (h : ∀ h', Heap.SameBut a s.heap h' → SetS P w h' a (put1 l k) → Q (decide (k ∉ l)) { s with heap := h' }) : wpAny (model P w) A (setAddHashed a (.str k u) (hashStr w k)) Q E s := by
  obtain ⟨D, ho, F, r, d⟩ := R.it
  by_cases c : k ∈ l
  · have q := h s.heap (Heap.SameBut.refl a s.heap) (by unfold put1; rw [if_pos c]; exact R)
    rw [show decide (k ∉ l) = false from by simp [c]] at q
    exact old_x ho F c (by omega) q
  · have q := h _ (Heap.SameBut.update s.heap a _) ⟨addTx (hashStr w k) (.str k u) D, get_upd _ ho rfl, by unfold put1; rw [if_neg c]; exact add_ok u F, add_ris _ _ r, by rw [add_led]; exact d⟩
    rw [show decide (k ∉ l) = true from by simp [c]] at q
    exact add_x ho F c hb q
/-- the texts are put in one by one -/
theorem update_texts {I : Addr} {fp wr : List Addr} {G : Array GenState → Array GenState → Prop} {n : Nat} {Pv : Nat → Value → Prop} {St : Nat → Shared → Prop} {R : Result → Shared → Prop} (S : Addr) (xs : List Str)
    (W : WalksS P w A.in1 I fp wr G n Pv St) (off : S ∉ fp) (hn : n = xs.length) (room : xs.length + 1 < scanBound) (val : ∀ i v, Pv i v → ∃ k t, xs[i]? = some k ∧ v = .str k t) :
    ∀ (m i : Nat) (s : Shared), i + m = n → St i s → SetS P w s.heap S (putL (xs.take i)) → (∀ s', Moved (S :: wr) G s s' → SetS P w s'.heap S (putL xs) → R (.ok (.ret .none)) s') →
      codeAny (model P w) A (.builtin "set.update.loop" ⟨[.ref S, .ref I], []⟩) R s := by
  have offw : S ∉ wr := fun z => off (W.sub _ z)
  have wide : ∀ b ∈ wr, b ∈ S :: wr := fun b z => List.mem_cons_of_mem _ z
  intro m
  induction m with
  | zero =>
    intro i s e st hS fin
    have all : xs.take i = xs := List.take_of_length_le (by omega)
    rw [all] at hS
    apply codeAny_builtin PyProof.Rows.F.entry_set_update_loop
    rw [Around.under_plainId PyProof.Rows.F.plain_set_update_loop _]
    have en : i = n := by omega
    subst en
    exact wpAny_bind (W.done s _ _ st fun s' mv => wpAny_pure (fin s' (mv.mono wide) (hS.keep fun o z => mv.heap S o offw z)))
  | succ m ih =>
    intro i s e st hS fin
    apply codeAny_builtin PyProof.Rows.F.entry_set_update_loop
    rw [Around.under_plainId PyProof.Rows.F.plain_set_update_loop _]
    apply wpAny_bind
    refine W.item i s _ _ (by omega) st fun v s' pv st' mv => ?_
    obtain ⟨k, t, hk, rfl⟩ := val i v pv
    have hS' : SetS P w s'.heap S (putL (xs.take i)) := hS.keep fun o z => mv.heap S o offw z
    have hlen : (putL (xs.take i)).length + 1 < scanBound := by
      have z := putL_len (xs.take i)
      rw [List.length_take] at z
      omega
    have next : put1 (putL (xs.take i)) k = putL (xs.take (i + 1)) := by rw [List.take_add_one, hk, ← putL_step] <;> rfl
    show wpAny _ A.in1 (holding [Value.str k t] (setAdd S (.str k t)) >>= fun _ => again _) _ _ s'
    apply wpAny_bind; apply wpAny_holding
    unfold setAdd
    apply wpAny_holding; apply wpAny_bind
    refine (strKind P w).pyHash (k := k) (is_str k t) ?_
    refine setS_add (s := { s' with toks := s'.toks + 1 }) hS' hlen fun h' same new => ?_
    rw [next] at new
    have oth : ∀ b o, b ≠ S → s'.heap.get? b = some o → h'.get? b = some o := fun b o nb z => (same.2 b nb).trans z
    refine wpAny_pure ⟨plainId_quiet PyProof.Rows.F.plain_set_update_loop _, ih (i + 1) { s' with heap := h', toks := s'.toks + 1 } (by omega) (W.frame _ s' _ _ st' (Nat.le_succ _) fun b hb o z => oth b o (fun y => off (y ▸ hb)) z) new fun s'' mv' hS'' => ?_⟩
    exact fin s'' (Moved.trans W.gtrans ((mv.mono wide).then_heap (Nat.le_succ _) fun b o nb z => oth b o (fun y => nb (y ▸ List.mem_cons_self)) z) mv') hS''
theorem text_at : ∀ {us : List Value} {xs : List Str}, StrsAre us xs → ∀ (i : Nat) (v : Value), us[i]? = some v → ∃ k u, xs[i]? = some k ∧ v = .str k u
  | _, _, .nil, i, v, e => by simp at e
  | _, _, .cons x u r, 0, v, e => ⟨x, u, rfl, by simpa using e.symm⟩
  | _, _, .cons x u r, i + 1, v, e => by simpa using text_at r i v (by simpa using e)
theorem size_new (h : Heap) (o : Obj) : (h.push o).objs.size = h.objs.size + 1 := Heap.size_push h o
/-- set(l), l a list of texts -/
theorem set_texts {l : Addr} {its : Array Value} {xs : List Str} {Q : Value → Shared → Prop} (calm : A.handled = none) (hl : s.heap.IsList l its) (tx : StrsAre its.toList xs) (room : xs.length + 1 < scanBound)
    (h : ∀ (h' : Heap) (tk : Nat), SetS P w h' s.heap.objs.size (putL xs) → (∀ b o, s.heap.get? b = some o → h'.get? b = some o) → Q (.ref s.heap.objs.size) { s with heap := h', toks := tk }) :
    wpAny (model P w) A (call (.type "set") [.ref l]) Q E s := by
  have cnt : its.size = xs.length := by rw [← StrsAre.len_eq tx, Array.length_toList]
  obtain ⟨c, tl, order⟩ := PySem.F.called_set.mro
  have built := PySem.F.called_set.made
  have under := PySem.F.called_set.sub
  apply wpAny_call; apply codeAny_of_tree
  show wpAny _ _ (callAny (.type "set") ⟨[.ref l], []⟩) _ _ s
  refine wpAny_pure ⟨Code.quiet_builtin _ (by decide +kernel), ?_⟩
  apply codeAny_builtin PySem.F.entry_type_call
  rw [Around.under_plain (weight_type_call_type "set" [.ref l] []) rfl]
  have no := PySem.F.called_set.notType
  have may := PySem.F.called_set.canCreate
  have one := PySem.F.typeCall_set_1 (.ref l)
  repeat (any_goals (first | assumption | wp_step))
  refine codeAny_mono (code_set_led1 (.ref l) (E := E) (Q₁ := fun r s₁ => r = .ref s.heap.objs.size ∧ s₁ = { s with heap := s.heap.push (newS w) }) ⟨rfl, rfl⟩) fun r s₁ got => ?_
  match r, got with
  | .ok (.ret r), ⟨e1, e2⟩ =>
    subst e1; subst e2
    have at0 : (s.heap.push (newS w)).get? s.heap.objs.size = some (newS w) := Heap.get?_push_size _ rfl
    have kind : Shared.TypeIs { s with heap := s.heap.push (newS w) } (.ref s.heap.objs.size) "set" := ⟨_, at0, rfl⟩
    have look := PySem.F.called_set.init.lookup
    have bind := PySem.F.called_set.init.bind (.ref s.heap.objs.size)
    repeat (any_goals (first | assumption | wp_step))
    refine codeAny_mono (codeAny_call_builtin (R := wants (fun r s₂ => r = .none ∧ ∃ h' tk, s₂ = { s with heap := h', toks := tk } ∧ SetS P w h' s.heap.objs.size (putL xs) ∧ ∀ b o, s.heap.get? b = some o → h'.get? b = some o) E) PySem.F.called_set.init.plain PySem.F.entry_set_init (check_set_init_1 kind ?_)) fun r₂ s₂ got₂ => ?_
    · have far : l < s.heap.objs.size := by obtain ⟨o, z, _⟩ := hl; exact Heap.lt_size z
      have hl0 : (s.heap.push (newS w)).IsList l its := hl.push _
      obtain ⟨⟨cl, di, da, sl⟩, atl, ecl, ct, eda⟩ := hl0
      simp only at ecl eda
      subst ecl; subst eda
      have d1 := PySem.F.sub_list_set
      have d2 := PySem.F.sub_list_frozenset
      have d3 : (Value.type "list" == Value.type "dict") = false := by decide
      have hl1 : (s.heap.push (newS w)).IsList l its := ⟨_, atl, rfl, ct, rfl⟩
      unfold Builtin.«set.__init__» noKeywords Builtin.Frozenset.updateFrom
      generalize walkIt : pyIter = PW
      wp_walk
      subst walkIt
      refine wpAny_pyIter_list hl1 (wpAny_bind (wpAny_runValue ?_))
      have calm3 : A.in1.in1.in1.handled = none := by simp [calm]
      have sz := size_new s.heap (newS w)
      have n1 : l ≠ (s.heap.push (newS w)).objs.size := by rw [sz]; exact Nat.ne_of_lt (Nat.lt_succ_of_lt far)
      have n2 : s.heap.objs.size ∉ [(s.heap.push (newS w)).objs.size, l] := by
        simp only [List.mem_cons, List.not_mem_nil, or_false, not_or, sz]; exact ⟨Nat.ne_of_lt (Nat.lt_succ_self _), Nat.ne_of_gt far⟩
      refine update_texts s.heap.objs.size xs ((Walks.list calm3 _ l n1 its).toS) n2 cnt room (fun i v e => text_at tx i v (by rw [Array.getElem?_toList]; exact e)) its.size 0 _ (by omega) ⟨⟨_, Heap.get?_push_size _ rfl, rfl, rfl⟩, hl1.push _⟩
        (setS_new (Heap.get?_push_of_some _ at0)) ?_
      intro s' mv new
      obtain ⟨h', g', d', tk', o'⟩ := s'
      obtain rfl : g' = s.gens := mv.gens
      obtain rfl : d' = s.drawn := mv.drawn
      obtain rfl : o' = s.os := mv.os
      refine wpAny_pure (wpAny_pure ⟨rfl, h', tk', rfl, new, fun b o z => ?_⟩)
      have lt := Heap.lt_size z
      refine mv.heap b o ?_ (Heap.get?_push_of_some _ (Heap.get?_push_of_some _ z))
      simp only [List.mem_cons, List.not_mem_nil, or_false, not_or, sz]
      exact ⟨Nat.ne_of_lt lt, Nat.ne_of_lt (Nat.lt_succ_of_lt lt)⟩
    · match r₂, got₂ with
      | .ok (.ret r), ⟨e1, h', tk, e2, new, keep⟩ =>
        subst e1; subst e2
        repeat (any_goals (first | assumption | wp_step))
        exact h _ _ new keep
      | .error e, z => exact z
  | .error e, z => exact z
end
end L2
namespace L2
open PySem PySem.Spec PyProof.Rows Er PySem.Froz
section
variable {P : Program} {w : World} {A : Around} {E : Value → Shared → Prop} {s : Shared}
theorem el_text {e : Int × Value} (h : (∃ k, (PySem.strKind P w).is k e.2 = true ∧ e.1 = (PySem.strKind P w).hash k) ∧ e.2.scannable = true) : ∃ x u, e.2 = .str x u := by
  obtain ⟨⟨k, z, _⟩, _⟩ := h
  obtain ⟨u, y⟩ := Value.isStrOf_shape z
  exact ⟨k, u, y⟩
theorem perm_of_sub : ∀ {l m : List Str}, l.Nodup → (∀ x ∈ l, x ∈ m) → m.length ≤ l.length → l.Perm m
  | [], m, _, _, h => by rw [List.eq_nil_of_length_eq_zero (Nat.le_zero.mp h)]
  | x :: l, m, nd, sub, h => by
    obtain ⟨n1, n2⟩ := List.nodup_cons.mp nd
    have hx : x ∈ m := sub x List.mem_cons_self
    have pe := List.perm_cons_erase hx
    refine (List.Perm.cons x (perm_of_sub n2 (fun y hy => ?_) ?_)).trans pe.symm
    · exact (List.mem_erase_of_ne (fun (e : y = x) => n1 (by rw [← e]; exact hy))).mpr (sub y (List.mem_cons_of_mem _ hy))
    · have z := pe.length_eq
      simp only [List.length_cons] at z h
      omega
/-- the texts that the set's entries hold are the list's, in another order -/
theorem tx_texts {D : SD} {l : List Str} (F : TxOk P w D l) (nd : l.Nodup) : (D.1.toList.map fun e => strOf e.2).Perm l := by
  have key : ∀ e ∈ D.1.toList, (PySem.strKind P w).is (strOf e.2) e.2 = true := fun e he => by
    obtain ⟨x, u, z⟩ := el_text (F.el e he)
    rw [z]; exact is_str x u
  refine (perm_of_sub nd (fun k hk => ?_) ?_).symm
  · obtain ⟨e, he, z⟩ := (F.mem k).mp hk
    exact List.mem_map.mpr ⟨e, he, (PySem.strKind P w).inj e.2 _ _ (key e he) z⟩
  · rw [List.length_map, Array.length_toList, F.sz]; exact Nat.le_refl _
/-- sorted(a), a set of texts -/
theorem sorted_textset {a : Addr} {l : List Str} {Q : Value → Shared → Prop} (calm : A.handled = none) (R : SetS P w s.heap a l) (nd : l.Nodup) (room : l.length < scanBound)
    (h : ∀ (s' : Shared) (p : Addr) (out : Array Value) (c : Nat) (ss : List Str), (∀ b o, s.heap.get? b = some o → s'.heap.get? b = some o) → s'.gens = s.gens → s'.os = s.os → s.heap.objs.size ≤ p →
      s'.heap.get? p = some (seqObj "list" out c) → StrsAre out.toList ss → ss.Perm l → sortedS ss = true → Q (.ref p) s') :
    wpAny (model P w) A (call (.builtin "sorted") [.ref a]) Q E s := by
  obtain ⟨⟨es, ep, t⟩, ho, F, ris, led⟩ := R.it
  have sz : es.size = l.length := F.sz
  refine Calls.call_function_entry kind_sorted plain_sorted entry_sorted (args_sorted1 _) ?_
  unfold Builtin.«sorted»
  refine wpAny_bind (m := checkCount "sorted" 1 1 _) (wpAny_pure ?_)
  apply wpAny_bind
  refine collect_set (A := A.in1) calm ⟨_, ho, rfl, rfl⟩ F.fit (by rw [sz]; exact room) ris led fun s1 vs keep le eg eo pm => ?_
  have len : vs.length = l.length := by rw [pm.length_eq, List.length_map, Array.length_toList, sz]
  have tx : StrsAre vs (vs.map strOf) := strsAre_map vs fun v hv => by
    obtain ⟨e, he, rfl⟩ := List.mem_map.mp (pm.mem_iff.mp hv)
    exact el_text (F.el e he)
  have pl : (vs.map strOf).Perm l := by
    have z := pm.map strOf
    rw [List.map_map] at z
    exact z.trans (tx_texts F nd)
  have big : vs.length ≤ sizeLine := by rw [len]; exact fits_of_scanBound room
  refine wpAny_bind (wpAny_newList ?_ big)
  have at1 : (s1.heap.push (seqObj "list" vs.toArray 0)).get? s1.heap.objs.size = some (seqObj "list" vs.toArray 0) := Heap.get?_push_size _ rfl
  apply wpAny_bind; apply wpAny_holding
  refine wpAny_call_entry slot_list_sort ⟨_, at1, rfl⟩ entry_list_sort (list_sort_treeKAny strKind_oneLt at1 tx.keysOf (fun v₁ v₂ r e => keyKind_strs (by rw [← e]; exact tx)) big fun st' q1 q2 => ⟨_, rfl, ?_⟩) (args_list_sort _)
  obtain ⟨ss, t1, t2, t3⟩ := sorted_out_str tx q1 q2
  obtain ⟨c, hc⟩ := sortedHeap_at (vs := vs) (out := (arrOf st').map (·.2)) at1
  refine wpAny_pure ⟨_, rfl, h _ s1.heap.objs.size _ c ss (fun b o z => ?_) eg eo le hc t1 (t2.trans pl) t3⟩
  have y := keep b o z
  have lt := Heap.lt_size y
  show (sortedHeap (s1.heap.push (seqObj "list" vs.toArray 0)) s1.heap.objs.size vs ((arrOf st').map (·.2))).get? b = some o
  rw [sortedHeap_old (Nat.ne_of_lt lt) (by rw [size_new]; exact Nat.lt_succ_of_lt lt)]
  exact Heap.get?_push_of_some _ y
end
def SetSO (P : Program) (w : World) (a : Addr) (l : List Str) : HO := .ext fun h => SetS P w h a l
section
variable {X : Cx}
theorem setSO_new {w : World} {P : Program} {H : Hp} {h : Heap} {a : Addr} {l : List Str} (R : SetS P w h a l) : ObjOk P w H h a (SetSO P w a l) := by
  obtain ⟨D, z, _⟩ := R.it
  exact ⟨R, ⟨_, z⟩, fun h1 h2 p k => p.keep k⟩
/-- set(xs), xs a list of texts -/
def rSetS (X : Cx) : List V → Hp → VK → Prop := fun vs H Q => ∃ (l : Addr) (xs : List Str), vs = [V.ref l] ∧ SqL X.K H l (xs.map V.str) ∧ xs.length + 1 < 4096 ∧ ∀ p, H p = none → Q (.ref p) (upd H p (SetSO X.prog X.w p (putL xs)))
theorem cr_setS (hc : X.calm = true) : CallR X (.type "set") (rSetS X) := by
  intro pins s σ H vs us Q I r h
  obtain ⟨l, xs, rfl, hl, few, q⟩ := h
  rw [Vals.ref1 r]
  obtain ⟨its, rv, pl, _⟩ := I.list hl
  refine set_texts (P := X.prog) (w := X.w) (xs := xs) (I.ok.hd hc) pl.isList (by simpa using strsAre_of rv) (by unfold scanBound; exact few) fun h' tk R keep => ?_
  exact ⟨.ref s.heap.objs.size, _, I.laid (t' := tk) keep (Nat.le_refl _) (setSO_new R), rfl, q _ (I.hok.fresh (Nat.le_refl _))⟩
/-- sorted(a), a a set of texts -/
def rSrtS (X : Cx) : List V → Hp → VK → Prop := fun vs H Q => ∃ (a : Addr) (l : List Str), vs = [V.ref a] ∧ H a = some (SetSO X.prog X.w a l) ∧ l.Nodup ∧ l.length < 4096 ∧
  ∀ (ss : List Str) (p : Addr), ss.Perm l → sortedS ss = true → H p = none → Q (.ref p) (upd H p (.lst (ss.map V.str)))
theorem cr_srtS (hc : X.calm = true) : CallR X (.builtin "sorted") (rSrtS X) := by
  intro pins s σ H vs us Q I r h
  obtain ⟨a, l, rfl, ha, nd, few, q⟩ := h
  rw [Vals.ref1 r]
  have R : SetS X.prog X.w s.heap a l := (I.hok a _ ha).1
  have room : l.length < scanBound := by unfold scanBound; exact few
  refine sorted_textset (I.ok.hd hc) R nd room fun s' p out c ss keep eg eo le hp tx pm so => ?_
  have none : H p = none := I.hok.fresh le
  have big : (ss.map V.str).length ≤ sizeLine := by rw [List.length_map, pm.length_eq]; exact fits_of_scanBound room
  have J : Inv X pins σ (upd H p (.lst (ss.map V.str))) { s with heap := s'.heap, gens := s'.gens, drawn := s'.drawn, toks := s'.toks } :=
    I.call (ch := []) (Un.laid keep le none) (I.hok.laid keep le ⟨big, out.toList, c, vals_of_strs tx, hp⟩) (by rw [eg]; exact I.bare) (fun _ z => nomatch z)
  have same : s' = { s with heap := s'.heap, gens := s'.gens, drawn := s'.drawn, toks := s'.toks } := by obtain ⟨_, _, _, _, _⟩ := s'; obtain ⟨_, _, _, _, _⟩ := s; cases eo; rfl
  rw [same]
  exact ⟨.ref p, _, J, rfl, q ss p pm so none⟩
end
end L2
/-! set(t), t a tuple of texts. -/
namespace L2
open PySem PySem.Spec PyProof.Rows Er PySem.Froz
end L2
/-! A list comprehension whose item lets out an error (raised where nothing is handled). -/
namespace L2
open PySem PySem.Spec PyProof.Rows
/-- what the block's code is to reach; an error goes on with the block's own env -/
def postE (M : Model) (A : Around) (E : Value → Shared → Prop) (use : Option (Value → Sem Unit)) (Q : Value → Shared → Prop) (acc : Value) (ce : Env) : Result → Shared → Prop
  | .ok f, s' => compPost M A E use Q acc ce.locals (.ok f) s'
  | .error x, s' => ∃ m, s'.heap.Ns ce.locals m ∧ ∀ h', Heap.SameBut ce.locals s'.heap h' → wpAny M A (passOn "comprehension.variables-let-go" x ce : Sem Value) (fun _ _ => False) E { s' with heap := h' }
theorem comp_errs {M : Model} {A : Around} {E : Value → Shared → Prop} {s : Shared} {env : Env} {e : Expr} {scope : Scope} {pos : Pos} {newAcc first : Sem Value} {g : Comprehension} {gs : List Comprehension} {cl : List (Str × Addr)} {use : Option (Value → Sem Unit)} {Q : Value → Shared → Prop}
    (cls : clausesOf e = g :: gs) (same : ∀ x, foldedSetIterable g.iter env x = pure x) (clo : closureFor scope env = pure cl) (kind : scope.kind = .function) (uniq : ∀ x ∈ scope.names, x.2 = .local → scope.names.lookup x.1 = some .local)
    (h : wpAny M A first (fun x s₁ => wpAny M A (pyIter x) (fun it s₂ => wpAny M A newAcc (fun acc s₃ => wpAny M A (newFunctionEnv scope env.globals cl [] env.qual none .none (some env)) (fun ce s₄ =>
      codeAny M A (.compStart e 0 it acc { ce with scope := relabel scope env }) (postE M A E use Q acc { ce with scope := relabel scope env }) s₄) E s₃) E s₂) E s₁) E s) :
    wpAny M A (comprehension e scope env pos newAcc false first use) Q E s := by
  unfold comprehension
  rw [clo, cls]
  have up : ∀ {α β : Type} {t : Sem α} {k : α → Sem β} {P : α → Shared → Prop} {R : β → Shared → Prop} {s : Shared}, wpAny M A t P E s → (∀ a s, P a s → wpAny M A (k a) R E s) → wpAny M A (t >>= k) R E s := fun a b => wpAny_bind (wpAny_mono a b fun _ _ z => z)
  refine up h fun x s₁ h₁ => wpAny_bind (wpAny_standAt ?_)
  refine wpAny_bind (wpAny_of_eq (same x) ?_)
  refine wpAny_bind (wpAny_holding (wpAny_mono h₁ (fun it s₂ h₂ => ?_) fun _ _ z => z))
  refine wpAny_standIf (up h₂ fun acc s₃ h₃ => wpAny_bind (wpAny_pure (up h₃ fun ce s₄ h₄ => ?_)))
  dsimp only
  generalize hvars : (scope.names.filter fun x => (x.2 == .local || x.2 == .cell) && x.1 != (".0" : Str)).reverse = vars
  have loc : ∀ x ∈ vars, x.2 = .local → Env.kindOf { ce with scope := relabel scope env } x.1 = some .local := fun x hx hl => by
    rw [← hvars] at hx
    exact lookup_relabel_local (uniq x (List.mem_filter.mp (List.mem_reverse.mp hx)).1 hl)
  have loc2 : ∀ x ∈ vars.drop 1 ++ vars.take 1, x.2 = .local → Env.kindOf { ce with scope := relabel scope env } x.1 = some .local := fun x hx hl =>
    (List.mem_append.mp hx).elim (fun z => loc x (List.mem_of_mem_drop z) hl) fun z => loc x (List.mem_of_mem_take z) hl
  refine wpAny_holding (wpAny_bind (wpAny_attempt (wpAny_holding (wpAny_run (codeAny_mono h₄ fun res s' got => ?_)))))
  match res, use, got with
  | .ok f, none, ⟨m, hn, q⟩ => exact wpAny_bind (wpAny_holding (wpAny_comp_letGo (cenv := { ce with scope := relabel scope env }) kind _ s' m loc hn fun h' m' _ sb => wpAny_pure (q h' sb)))
  | .ok f, some u, q =>
    apply wpAny_bind; apply wpAny_rule; apply wpAny_bind; apply wpAny_holding
    refine wpAny_mono q (fun _ s'' ⟨m, hn, q⟩ => ?_) fun _ _ z => z
    exact wpAny_bind (wpAny_comp_letGo (cenv := { ce with scope := relabel scope env }) kind _ s'' m loc2 hn fun h' m' _ sb => wpAny_pure (q h' sb))
  | .error x, use, ⟨m, hn, q⟩ =>
    exact wpAny_bind (wpAny_holding (wpAny_comp_letGo (cenv := { ce with scope := relabel scope env }) kind _ s' m loc hn fun h' m' _ sb => wpAny_mono (q h' sb) (fun _ _ f => f.elim) fun _ _ z => z))
theorem note_eq {e : Value} {ce env : Env} (hf : ce.frame = env.frame) : noteFrame e ce = noteFrame e env := by
  unfold PySem.noteFrame PySem.frameOf
  rw [hf]
theorem frames_less {h h' B B' : Heap} {C : Addr} : ∀ {l : List Env}, h.FunFrames B l → (∀ b o, h.get? b = some o → b ∈ frs l → ∃ o', h'.get? b = some o' ∧ o'.data = o.data) → (∀ b, B.get? b = none → B'.get? b = none) → h'.FunFrames B' l
  | [], _, _, _ => trivial
  | env :: r, ⟨a, ⟨L, o, hf, hn, ho, hd⟩, t⟩, k, n => by
    obtain ⟨o', e1, e2⟩ := k L o ho (List.mem_filterMap.mpr ⟨env, List.mem_cons_self, hf⟩)
    refine ⟨a, ⟨L, o', hf, n L hn, e1, fun vs => e2 ▸ hd vs⟩, frames_less (C := C) t (fun b o e m => k b o e ?_) n⟩
    obtain ⟨x, hx, q⟩ := List.mem_filterMap.mp m
    exact List.mem_filterMap.mpr ⟨x, List.mem_cons_of_mem _ hx, q⟩
/-- the error of a call within the block, in the air of the def -/
theorem blk_err {X : Cx} {E : XK} {ce : Env} {u : Value} {s0 s' : Shared} {pins : List (Addr × Obj)} {σ : St} {H0 : Hp} {m : Str → Option Value} {use : Option (Value → Sem Unit)} {Qf : Value → Shared → Prop} {acc : Value}
    (hs : X.stack = X.env :: X.outer) (hf : X.env.frame = some X.env.locals) (tk : L2N.Takes X (fun c d _ H => E c d H)) (hcf : ce.frame = X.env.frame)
    (I : Inv X pins σ H0 s0) (fC : FpOk X pins H0 ce.locals) (nC : s0.heap.Ns ce.locals m) (c : L2N.CX X.prog X.w X.stack H0 s0 E u s') :
    notedBy (model X.prog X.w) X.A ce (fun e s'' => postE (model X.prog X.w) X.A X.xe use Qf acc ce (.error e) s'') u s' := by
  obtain ⟨oC, es, ep, hC, dC, rC⟩ := id nC
  have oC' : ∃ es ep, oC.data = .dict es ep := ⟨es, ep, dC⟩
  obtain ⟨f0, f1, f2, f3, f4, f5⟩ := fC
  have out : ce.locals ∉ frs X.stack := by
    intro z
    rw [hs] at z
    rcases List.mem_filterMap.mp z with ⟨x, hx, q⟩
    rcases List.mem_cons.mp hx with e | hx
    · rw [e, hf] at q; exact f1 (Option.some.inj q).symm
    · exact f2 (List.mem_filterMap.mpr ⟨x, hx, q⟩)
  obtain ⟨a, B0, H', cls, d, rfl, fl, hok, ub, na, os, ag, hE⟩ := c
  have cS : s'.heap.get? ce.locals = some oC := fl.1 _ _ (ub.keep _ _ hC f0 out)
  have I0 : Inv X [] σ H0 s0 := I.pins_of fun p hp => nomatch hp
  obtain ⟨a', B, sI, pins', σ', H2, cls2, d2, ea, J', nb, up, sky, na2, os2, ag2, w2, w3⟩ := L2N.XE.of_call (W := fun c d _ H => E c d H ∧ H ce.locals = none) I0 (fun _ _ _ z => z) ⟨a, B0, H', cls, d, rfl, fl, hok, ub, na, os, ag, hE, ub.free _ _ hC f0⟩
  cases ea
  have J : Inv X [] σ' H2 sI := J'.pins_of fun p hp => nomatch hp
  have hfr : X.A.frames = some (X.env :: X.outer) := by rw [J.ok.frames, hs]
  rw [hs] at sky
  show wpAny _ X.A (noteFrame (.ref a) ce) _ _ s'
  rw [note_eq hcf]
  -- noted: it is held
  have go : ∀ h1, HandSPX.HeldZ B (X.env :: X.outer) a (L2N.Zn cls2 d2) X.env.locals h1 → s'.heap.UpToSlots h1 → postE (model X.prog X.w) X.A X.xe use Qf acc ce (.error (.ref a)) { s' with heap := h1 } := by
    intro h1 held up1
    obtain ⟨slC, c1⟩ := up1 _ _ cS (fun vs z => by rw [dC] at z; cases z)
    refine ⟨m, ⟨_, es, ep, c1, dC, rC⟩, fun h2 sb => ?_⟩
    obtain ⟨G, g1, g2⟩ := restrict sI.heap fun b => decide (b ≠ ce.locals)
    obtain ⟨B2, b1, b2⟩ := restrict B fun b => decide (b ≠ ce.locals)
    have gO : ∀ b, b ≠ ce.locals → G.get? b = sI.heap.get? b := fun b z => g1 b (decide_eq_true z)
    have gC : G.get? ce.locals = none := g2 _ (by simp)
    have bO : ∀ b, b ≠ ce.locals → B2.get? b = B.get? b := fun b z => b1 b (decide_eq_true z)
    have bC : B2.get? ce.locals = none := b2 _ (by simp)
    have ne_of : ∀ {h : Heap} {b : Addr} {o : Obj}, h.get? ce.locals = none → h.get? b = some o → b ≠ ce.locals := fun x y z => by rw [z, x] at y; cases y
    have bl : ∀ b, B.get? b = none → B2.get? b = none := fun b z => by
      by_cases e : b = ce.locals
      · rw [e]; exact bC
      · rw [bO b e]; exact z
    obtain ⟨k1, k2, k3, oe, vs, T, oT, ts, he, hz, hd, hv, hnT, hTe, hT, hdT, h3⟩ := held
    have notC : ∀ {b : Addr} {o : Obj} {vs : Array Value}, h1.get? b = some o → o.data = .fields vs → b ≠ ce.locals := fun {b o vs} x y z => by
      rw [z, c1] at x
      cases x
      have y' : oC.data = .fields vs := y
      rw [dC] at y'; cases y'
    have held2 : HandSPX.HeldZ B2 (X.env :: X.outer) a (L2N.Zn cls2 d2) X.env.locals h2 := by
      refine ⟨fun b o z => ?_, bl a k2, frames_less (C := ce.locals) k3 (fun b o z mm => ⟨o, (sb.2 b fun y => ?_).trans z, rfl⟩) bl, oe, vs, T, oT, ts, (sb.2 a (notC he hd)).trans he, hz, hd, hv, bl T hnT, hTe, (sb.2 T (notC hT hdT)).trans hT, hdT, h3⟩
      · have y := ne_of bC z
        rw [bO b y] at z
        exact (sb.2 b y).trans (k1 b o z)
      · rw [y, ← hs] at mm; exact out mm
    unfold PySem.passOn
    refine wpAny_bind (wpAny_field ((sb.2 a (notC he hd)).trans he) hd hv ?_)
    rw [if_neg (by simp)]
    have fin : wpAny (model X.prog X.w) X.A (setFlight (.ref a) ce.frame) (fun _ s4 => wpAny (model X.prog X.w) X.A (throw (.ref a) : Sem Value) (fun _ _ => False) X.xe s4) X.xe { s' with heap := h2 } := by
      rw [hcf, hf]
      refine HandSPX.setFlight_onZ held2 fun h4 held4 up4 => wpAny_throw (tk _ _ ?_)
      refine ⟨a, B2, { sI with heap := G, toks := sI.toks }, [], σ', H2, cls2, d2, rfl, J.turned (fun b o y z => (gO b y).trans z) w3 f1 f3 f4 (fun p hp => f5 p (List.mem_append_left _ (by simpa using hp))), fun b o z y => ?_, fun b o z y => ?_, .inr (.inr (by rw [hs]; exact held4)), na2, os2, ag2, w2⟩
      · have x := ne_of gC z
        rw [bO b x]
        exact nb b o (by rw [← gO b x]; exact z) y
      · have x := ne_of gC z
        have z' : sI.heap.get? b = some o := by rw [← gO b x]; exact z
        obtain ⟨l1, e1⟩ := up b o z' y
        obtain ⟨l2, e2⟩ := up1 b _ e1 y
        obtain ⟨l3, e3⟩ := up4 b _ ((sb.2 b x).trans e2) y
        exact ⟨l3, e3⟩
    first
      | exact wpAny_bind (wpAny_pure (wpAny_bind fin))
      | exact wpAny_bind fin
  rcases sky with ⟨hB, hn, hl, oe, vs, he, hz, hd, h1⟩ | fl | held
  · exact PXN.look_newZ L2N.Zn.steady hfr hl hf he hB hn hd h1 hz go
  · exact PXN.looks_onZ L2N.Zn.steady hfr hf fl go
  · exact HandSPX.againZ hf held.2.2.2 (go s'.heap held (Heap.UpToSlots.refl _))
/-- the block's context, errors going where xe says -/
abbrev Cx.blkx (X : Cx) (s : Shared) (H : Hp) (scope : Scope) (cenv : Env) (fp : List Addr) (xe : Value → Shared → Prop) : Cx :=
  { X with s_0 := s, H_0 := H, env := cenv, outer := X.stack, ex := fp, fn := fun x => scope.names.lookup x == some .cell, pn := [], xe := xe }
theorem Inv.blkx {X : Cx} {s s' : Shared} {H H' : Hp} {scope : Scope} {cenv : Env} {fp : List Addr} {xe : Value → Shared → Prop} {pins : List (Addr × Obj)} {σ : St} (I : Inv (X.blk s H scope cenv fp) pins σ H' s') : Inv (X.blkx s H scope cenv fp xe) pins σ H' s' :=
  have ok := I.ok
  ⟨⟨ok.mod, ok.kind, ok.glob, ok.blt, ok.above, ok.inj, ok.has, ok.cab, ok.hd, ok.frames, ok.stk, ok.exf, ok.bs, ok.bsz, ok.noex, ok.exfs, ok.funs, ok.frf⟩, I.os, I.bare, I.base, I.loc, I.cell, I.free, I.freeC, I.pin, I.hok, I.len⟩
/-- what the block's parts are to keep: whatever the place the errors go to, so long as a call's errors are taken there -/
def Within (X : Cx) (E : XK) (scope : Scope) (p : Cx → Prop) : Prop := ∀ (s : Shared) (H : Hp) (C : Addr) (cl : List (Str × Addr)) (fp : List Addr) (xe : Value → Shared → Prop),
  Passes (L2N.CX X.prog X.w) (X.blkx s H scope (compEnvC scope cl C X.env) fp xe) E → p (X.blkx s H scope (compEnvC scope cl C X.env) fp xe)
section
variable {X : Cx}
theorem lc_coreE {E : XK} {pins : List (Addr × Obj)} {s : Shared} {σ : St} {H : Hp} {Q : VK} {elt tg iter : Expr} {ifs : List Expr} {scope : Scope} {own : List (Str × Nat)} {pos pos' : Pos} {wi : TI} {g : TG} {tt : TT} {te : TE} {use : Option (Value → Sem Unit)} {Qf : Value → Shared → Prop}
    (hs : X.stack = X.env :: X.outer) (hf : X.env.frame = some X.env.locals) (tk : L2N.Takes X (fun c d _ H => E c d H))
    (hc : X.calm = true) (hN : X.N.Nodup) (I : Inv X pins σ H s) (hi : PI X tg iter wi) (ok : BlkOk X.N X.env.scope scope own)
    (hg : Within X E scope fun Y => PG Y tg g) (ht : Within X E scope fun Y => PTs Y ifs tt) (he : Within X E scope fun Y => PE Y elt te) (same : ∀ x, foldedSetIterable iter X.env x = pure x)
    (h : tLc wi g tt te (own.map (·.2)) σ H Q)
    (fin : ∀ D C s' m H', Inv X pins σ H' s' → Q (.ref D) H' → s'.heap.Ns C m → FpOk X pins H' C → compPost (model X.prog X.w) X.A X.xe use Qf (.ref D) C (.ok .next) s') :
    wpAny (model X.prog X.w) X.A (comprehension (.ListComp elt [⟨tg, iter, ifs, 0⟩] scope pos) scope X.env pos' (newList []) false (eval iter X.env) use) Qf X.xe s := by
  have held : ∀ y ∈ scope.names, y.2 = .free → ∃ c, X.env.cells.lookup y.1 = some c := fun y hy e => I.ok.has _ (ok.free y hy e)
  refine comp_errs (use := use) rfl same (closure_ok held) ok.kind (fun y hy e => by rw [ok.uniq y hy, e]) (thn (hi.run pins s σ H _ I h) fun xv s1 hx => thn hx fun itv s2 h2 => ?_)
  obtain ⟨it, fp, tn, J, H2, rfl, I2, T, st2, f2, plan⟩ := h2
  refine wpAny_newObj_type (newEnv_comp ?_) (by show 0 ≤ sizeLine; decide)
  -- the new list at D
  obtain ⟨D, hD⟩ : ∃ D, D = s2.heap.objs.size := ⟨_, rfl⟩
  rw [← hD]
  obtain ⟨W, ⟨m0, w0⟩, turn⟩ := plan D (I2.hok.fresh (Nat.le_of_eq hD.symm))
  obtain ⟨s3, hs3⟩ : ∃ s3 : Shared, s3 = { s2 with heap := s2.heap.push { cls := .type "list", data := .seq ([] : List Value).toArray } } := ⟨_, rfl⟩
  have h3 : s3.heap = s2.heap.push { cls := .type "list", data := .seq ([] : List Value).toArray } := by rw [hs3]
  have I3 : Inv X pins σ (upd H2 D (.lst [])) s3 := by
    rw [hs3]
    exact I2.laid (t' := s2.toks) (fun b o e => Heap.get?_push_of_some _ e) (Nat.le_of_eq hD.symm) ⟨Nat.zero_le _, [], 0, .nil, by rw [hD]; exact Heap.get?_push_size _ rfl⟩
  rw [← hs3]
  obtain ⟨H3, hH3⟩ : ∃ H3, H3 = upd H2 D (.lst []) := ⟨_, rfl⟩
  rw [← hH3] at I3 w0
  have old : ∀ b ∈ fp, b < s2.heap.objs.size := fun b hb => let ⟨o, e, _⟩ := T.obj _ _ st2 b hb; Heap.lt_size e
  have f3 : ∀ b ∈ fp, FpOk X pins H3 b ∧ b < s3.heap.objs.size := fun b hb => by
    have lt := old b hb
    have ne : b ≠ D := by rw [hD]; exact Nat.ne_of_lt lt
    exact ⟨⟨by rw [hH3, upd_ne ne]; exact (f2 b hb).1, (f2 b hb).2⟩, by rw [h3, size_new]; exact Nat.lt_succ_of_lt lt⟩
  have st3 : tn 0 s3.heap := T.keep _ _ _ st2 fun b _ o e => by rw [h3]; exact Heap.get?_push_of_some _ e
  obtain ⟨cl, hcl⟩ : ∃ cl, cl = cellsFrom (s3.heap.objs.size + 1) scope.names (cloFrom X.env.cells scope.names []) := ⟨_, rfl⟩
  obtain ⟨ce, hce⟩ : ∃ ce, ce = compEnvC scope cl s3.heap.objs.size X.env := ⟨_, rfl⟩
  have cL : ce.locals = s3.heap.objs.size := by rw [hce] <;> rfl
  have cF : ce.frame = X.env.frame := by rw [hce] <;> rfl
  obtain ⟨s4, hs4⟩ : ∃ s4 : Shared, s4 = { s3 with heap := pushCells (s3.heap.push { cls := .type "dict", data := .dict #[] }) scope.names } := ⟨_, rfl⟩
  have I4 : Inv (X.blk s3 H3 scope ce fp) [] (wipe σ (own.map (·.2))) H3 s4 := by rw [hs4, hce, hcl]; exact block_start I3 ok hN f3
  show codeAny _ _ (.compStart (.ListComp elt [⟨tg, iter, ifs, 0⟩] scope pos) 0 (.ref it) (.ref D) (compEnvC scope (cellsFrom (s3.heap.objs.size + 1) scope.names (cloFrom X.env.cells scope.names [])) s3.heap.objs.size X.env))
    (postE (model X.prog X.w) X.A X.xe use Qf (.ref D) (compEnvC scope (cellsFrom (s3.heap.objs.size + 1) scope.names (cloFrom X.env.cells scope.names [])) s3.heap.objs.size X.env)) { s3 with heap := pushCells (s3.heap.push { cls := .type "dict", data := .dict #[] }) scope.names }
  rw [← hcl, ← hce, ← hs4]
  have st4 : tn 0 s4.heap := T.keep _ _ _ st3 fun b _ o e => by rw [hs4]; exact pushCells_keeps _ _ _ _ (Heap.get?_push_of_some _ e)
  -- where a call's error goes
  let XE0 : Value → Shared → Prop := notedBy (model X.prog X.w) X.A ce (fun e s'' => postE (model X.prog X.w) X.A X.xe use Qf (.ref D) ce (.error e) s'')
  let Y : Cx := X.blkx s3 H3 scope ce fp XE0
  have back : ∀ {pins' : List (Addr × Obj)} {σ' : St} {H' : Hp} {s' : Shared}, Inv Y pins' σ' H' s' → Inv X pins σ H' s' ∧ FpOk X pins H' ce.locals ∧ ∃ m, s'.heap.Ns ce.locals m := fun {pins' σ' H' s'} K => by
    obtain ⟨m, hn, _⟩ := K.loc
    have none : H' s3.heap.objs.size = none := by rw [← cL]; exact K.free
    exact ⟨I3.call' (ch := fp) K.os K.base K.hok K.bare fun b hb => ⟨(f3 b hb).1.2.2.2.1, (f3 b hb).1.2.1, (f3 b hb).1.2.2.2.2.1, (f3 b hb).1.2.2.2.2.2⟩, by rw [cL]; exact I3.fpOk (Nat.le_refl _) none, m, hn⟩
  have pass : Passes (L2N.CX X.prog X.w) Y E := fun pins' σ' H' s' e s'' K c => by
    obtain ⟨a, b, m, d⟩ := back K
    exact blk_err hs hf tk cF a b d c
  have pg : PG Y tg g := by
    have z := hg s3 H3 s3.heap.objs.size cl fp XE0
    rw [← hce] at z
    exact z pass
  have pt : PTs Y ifs tt := by
    have z := ht s3 H3 s3.heap.objs.size cl fp XE0
    rw [← hce] at z
    exact z pass
  have pe : PE Y elt te := by
    have z := he s3 H3 s3.heap.objs.size cl fp XE0
    rw [← hce] at z
    exact z pass
  have stay : ∀ {pins' : List (Addr × Obj)} {σ' : St} {H' : Hp} {s' : Shared}, Inv Y [] σ' H' s' → (∀ b ∈ fp, H' b = none) → ∀ b ∈ fp, FpOk Y [] H' b := fun {_ σ' H' s'} K n b hb =>
    ⟨n b hb, (K.ok.exf b hb).1, K.ok.exfs b hb, .inl hb, (K.ok.exf b hb).2, fun p hp => absurd (show p ∈ ([] : List (Addr × Obj)) ++ [] from hp) (by simp)⟩
  have loop : codeAny (model X.prog X.w) X.A (.compLoop (.ListComp elt [⟨tg, iter, ifs, 0⟩] scope pos) 0 (.ref it) (.ref D) ce) (postE (model X.prog X.w) X.A X.xe use Qf (.ref D) ce) s4 := by
    refine compLoop_any (fun n s' => ∃ i H', Inv Y [] (wipe σ (own.map (·.2))) H' s' ∧ tn i s'.heap ∧ (∀ b ∈ fp, H' b = none) ∧ W i n H') ?_ m0 ⟨0, H3, I4.blkx, st4, fun b hb => (f3 b hb).1.1, w0⟩
    rintro n s5 ⟨i, H5, I5, st5, n5, w5⟩
    rcases turn i n H5 w5 with ⟨stop, q⟩ | ⟨go, Nx, next, step⟩
    · refine thnF (T.done Y rfl rfl rfl hc i [] s5 _ H5 (fun _ _ => False) I5 (stay (pins' := []) I5 n5) st5 stop) fun r s6 ⟨hr, I6⟩ => ?_
      subst hr
      obtain ⟨I7, f7, m, hn⟩ := back I6
      exact fin D ce.locals s6 m H5 I7 q hn f7
    · refine thnF (T.item Y rfl rfl rfl hc i [] s5 _ H5 (fun _ _ => False) I5 (stay (pins' := []) I5 n5) st5 go) fun r s6 ⟨u, hr, h6⟩ => ?_
      subst hr
      refine thnF h6 fun _ s7 ⟨x, H7, I7, r7, y7, st7, n7⟩ => ?_
      have P7 : Inv Y ([] ++ pinsAt fp s7.heap) (wipe σ (own.map (·.2))) H7 s7 := I7.pinned (stay (pins' := []) I7 n7) (T.obj _ _ st7)
      refine wpAny_mono (pg.run _ s7 _ H7 x u _ P7 r7 (step x H7 y7)) (fun _ s8 ⟨σ8, H8, I8, w8, q8⟩ => ?_) fun _ _ z => z
      refine wpAny_mono (pt.run _ s8 σ8 H8 _ I8 q8) (fun b s9 ⟨H9, I9, q9⟩ => ?_) fun _ _ z => z
      have ends : ∀ {s' : Shared} {H' : Hp}, Inv Y ([] ++ pinsAt fp s7.heap) σ8 H' s' → Nx H' → ∃ m, m < n ∧ ∃ i H', Inv Y [] (wipe σ (own.map (·.2))) H' s' ∧ tn i s'.heap ∧ (∀ b ∈ fp, H' b = none) ∧ W i m H' := fun {s' H'} K nx => by
        obtain ⟨m', lt, w'⟩ := next H' nx
        have pin : ∀ b ∈ fp, ∀ o, s7.heap.get? b = some o → s'.heap.get? b = some o ∧ H' b = none := fun b hb o e =>
          have z := K.pin (b, o) (List.mem_append_right _ (List.mem_append_right _ (mem_pinsAt hb e)))
          ⟨z.1, z.2.1⟩
        have long : (wipe σ (own.map (·.2))).length = σ8.length := by rw [← w8, wipe_length]
        refine ⟨m', lt, i + 1, H', (K.unpinned (pins := [])).weak long (fun j v e => by rw [← w8] at e; exact (wipe_some e).1), T.keep _ _ _ st7 fun b hb o e => (pin b hb o e).1, fun b hb => ?_, w'⟩
        obtain ⟨o, e, _⟩ := T.obj _ _ st7 b hb
        exact (pin b hb o e).2
      cases b with
      | false => simp only [Bool.false_eq_true, if_false] at q9 ⊢; exact ends I9 q9
      | true =>
        simp only [if_true] at q9 ⊢
        refine wpAny_mono (pe.run _ s9 σ8 H9 _ I9 q9) (fun z s10 ⟨yv, H10, I10, r10, acc, d10, z10, nx⟩ => ?_) fun _ _ z => z
        exact app_ok (X := Y) I10 d10 z10 r10 fun s11 I11 => ends I11 nx
  exact codeAny_compStart_list loop (T.self X.A 0 _ _ _ st4 loop)
/-- name = [..], the name a local, on one line -/
theorem ps_setLcE {E : XK} {i : Nat} {y : Str} {py spos : Pos} {elt tg iter : Expr} {ifs : List Expr} {scope : Scope} {own : List (Str × Nat)} {pos : Pos} {wi : TI} {g : TG} {tt : TT} {te : TE} (hs : X.stack = X.env :: X.outer) (hf : X.env.frame = some X.env.locals) (tk : L2N.Takes X (fun c d _ H => E c d H))
    (hc : X.calm = true) (hN : X.N.Nodup) (hy : X.N[i]? = some y) (hyl : X.env.scope.names.lookup y = some .local) (hsw : swapsWith (.ListComp elt [⟨tg, iter, ifs, 0⟩] scope pos) (some (.Name y py)) spos.line X.env = pure true) (hi : PI X tg iter wi) (ok : BlkOk X.N X.env.scope scope own)
    (hg : Within X E scope fun Y => PG Y tg g) (ht : Within X E scope fun Y => PTs Y ifs tt) (he : Within X E scope fun Y => PE Y elt te) (same : ∀ x, foldedSetIterable iter X.env x = pure x := by intro _; rfl) :
    PS X (.Assign [.Name y py] (.ListComp elt [⟨tg, iter, ifs, 0⟩] scope pos) spos) (tAsg (tLc wi g tt te (own.map (·.2))) (gName i)) := by
  refine ⟨fun pins s σ H D I h => ?_⟩
  rw [exec_Assign_Name_used _ _ _ _ hsw]
  apply wpAny_bind; apply wpAny_standAt; apply wpAny_bind
  show wpAny _ X.A ((comprehension (.ListComp elt [⟨tg, iter, ifs, 0⟩] scope pos) scope X.env (firstIterPos [⟨tg, iter, ifs, 0⟩] pos) (newList []) false (eval iter X.env) (some (assign (.Name y py) X.env))) >>= fun _ => pure ()) _ _ s
  have plan : tLc wi g tt te (own.map (·.2)) σ H (fun x H1 => gName i x σ H1 D.nx) := h
  refine wpAny_bind (wpAny_mono (lc_coreE (Qf := fun _ s' => SP X pins D .next s') hs hf tk hc hN I hi ok hg ht he same plan fun L C s' m H' J q hn ⟨f0, f1, _, f3, f4, f5⟩ => ?_) (fun _ s' q => wpAny_pure (wpAny_pure q)) fun _ _ z => z)
  show wpAny _ X.A (assign (.Name y py) X.env (.ref L)) _ _ s'
  refine wpAny_assign_Name (store_ok2 (v := V.ref L) J hN hy (.inl hyl) rfl (fun s2 I2 ⟨a, sb, ha⟩ => ?_) (.inr hyl))
  have ne : C ≠ a := ha.elim (fun z => by rw [z]; exact f1) fun z e => f4 y a z e.symm
  exact ⟨m, hn.sameBut sb ne, fun h3 sb3 => ⟨_, H', I2.turned (t' := s2.toks) (fun b o hb e => (sb3.2 b hb).trans e) f0 f1 f3 f4 f5, q⟩⟩
end
end L2
/-! Comprehensions over a range, and all(list), in a def that is called while an error is handled. -/
namespace HotX
open PySem PySem.Spec PyProof.Rows
end HotX
namespace L2
open PySem PySem.Spec PyProof.Rows HotX
end L2
/-! try: .. with several «except X as n:» of one name n. -/
/-! isinstance(e, (A, B, ..)), e the error that the suite holds; an error's exceptions where a def with a star binds. -/
namespace L2
open PySem PySem.Spec PyProof.Rows Er
def rIsFT (K : PySem.W.Frag) (D a : Addr) (cls : Value) (dd : Option Addr) : List V → Hp → VK → Prop := fun xs H Q => cls = .ref D ∧ ∃ (t : Addr) (cs : List V) (cvs : List Value) (b : Bool), xs = [.ref a, .ref t] ∧ SqT K H t cs ∧ (∀ us, Vals cs us → us = cvs) ∧ (∀ dx, dd = some dx → ∃ fs, H dx = some (.xd fs)) ∧ PySem.W.kitAny K (.ref D) cvs = some b ∧ Q (.bl b) H
theorem call_isFT {X : Cx} {a D : Addr} {cls : Value} {dd : Option Addr} {oe : Obj} {pn : List (Addr × Obj)} (C : ExcC X.K D) (hz : Zc cls dd oe) (hf : ∃ vs, oe.data = .fields vs) : CallR (X.suite a ((a, oe) :: pn)) (.builtin "isinstance") (rIsFT X.K D a cls dd) := by
  intro pins s σ H xs us Q I r h
  obtain ⟨ecls, t, cs, cvs, b, rfl, ht, hcv, hdd, e, q⟩ := h
  subst ecls
  cases r with
  | cons rx rr =>
    cases rr with
    | cons rt rr =>
      cases rr
      cases rx
      cases rt
      obtain ⟨its, rv, ⟨o, ho, hc, n, hd⟩, _⟩ := I.tuple ht
      obtain ⟨oc, od, oda, osl⟩ := o
      dsimp only at hc hd
      subst hc hd
      obtain ⟨hget, _⟩ := I.pin (a, oe) (List.mem_append.mpr (.inl List.mem_cons_self))
      obtain ⟨vs, hv⟩ := hf
      have hcl : (PySem.W.clsIn X.K D).isSome = true := by
        obtain ⟨cd, hc, _⟩ := PySem.W.any_some C.hd
        rw [hc]
        rfl
      have J : ∃ od, PySem.W.InstAt s.heap a oe D od := by
        obtain ⟨ec, ed, eda, esl⟩ := oe
        obtain ⟨h1, h2⟩ := hz
        dsimp only at h1 h2 hv
        subst h1 h2 hv
        cases ed with
        | none => exact ⟨none, hget, rfl, rfl, trivial⟩
        | some dx =>
          obtain ⟨fs, hx⟩ := hdd dx rfl
          have ok : ObjOk X.prog X.w H s.heap dx (.xd fs) := I.hok dx _ hx
          obtain ⟨mA, hns, hr⟩ := ok
          obtain ⟨od, ho, hl⟩ := lookIn_ns hns
          exact ⟨some od, hget, rfl, rfl, ho⟩
      obtain ⟨od', J⟩ := J
      have ei : its = cvs := hcv its rv
      subst ei
      exact PySem.W.kia_tup (PySem.W.kitx_exc hcl C.hg C.hk C.hs C.ha C.hn C.ht C.hm) I.kIn J ho e (fun z => nomatch z) fun tk => ⟨.bl b, H, I.kept (t' := tk) fun _ _ z => z, rfl, q⟩
open StX in
theorem cxUpN {P : Program} {w : World} : CXUp (L2N.CX P w) := by
  rintro outer s H s2 H2 E e s' un kp ho ⟨a, B, H', cls, d, ea, fl, hok, ub, na, os, ag, he⟩
  have old : ∀ b o, s.heap.get? b = some o → H b = none → H2 b = none := fun b o q n => un.free b o q n (by simp)
  refine ⟨a, B, H', cls, d, ea, fl, hok, ⟨fun b o q n => ub.keep b o (kp b o q) (old b o q n), fun b o q => ub.slot b o (kp b o q), fun b o q n => ub.free b o (kp b o q) (old b o q n), fun b o q => ub.there b o (kp b o q), fun b xs q => ub.tups b xs (un.tups b xs q), fun b o xs q => ub.frzs b o xs (un.frzs b o xs q), fun b ps q => ?_⟩, na, os.trans ho, ag, he⟩
  obtain ⟨m1, e1⟩ := un.tbls b ps q
  obtain ⟨m2, e2⟩ := ub.tbls b _ e1
  exact ⟨m1 ++ m2, by rw [e2, Array.append_assoc]⟩
/-- a def f(self, .., *v) that may let errors out: what is left over is a new tuple -/
theorem Fun.okStar {P : Program} {w : World} {K : PySem.W.Frag} {mg : Str → Option Value} {base : Heap} {x qual pv : Str} {st : Stmt} {f : Addr} {fd : FuncData} {N ps : List Str} {k : Nat} {sp : Sp} (F : Fun K x qual st f fd) (S : FnScope N (ps ++ [pv]) (defScope st))
    (bind : ∀ (kV doc pm : Value) (an : Option Addr) (cdv ct : Value) (us rest : List Value), us.length = ps.length → bindArgs (PySem.W.fnOf x qual (defArgs st) (defBody st) (defScope st) .none kV doc pm an cdv ct) ⟨us ++ rest, []⟩ = (newTuple rest >>= fun t => pure (ps.zip us ++ [(pv, t)])))
    (hbody : ∀ (cdv : Value) (A : Around) (outer : List Env) (s : Shared) (H : Hp) (vs : List V) (Q : VK) (E : XK), Room k (A.deeper (envOfC qual (defScope st) s.heap.objs.size f cdv)) → sp vs H Q E →
      ∃ t, PSs (cxOf (L2N.CX P w) P w K mg base N qual (defScope st) f cdv A outer s H E) (defBody st) t ∧ t { nx := fun _ H' => Q .non H', rt := Q } (start N vs) H) :
    FnR P w K mg base (L2N.CX P w) (k + 1) f (fun vs H Q E => ∃ ws rest, vs = ws ++ rest ∧ ws.length = ps.length ∧ rest.length ≤ sizeLine ∧ ∀ p, H p = none → sp (ws ++ [V.ref p]) (upd H p (.tup rest)) Q E) := by
  obtain ⟨oc, od, kV, doc, pm, an, cdv, ct, osl, rfl, lk, hcd⟩ := F.ex
  exact StX.fn_star lk hcd S cxUpN (bind _ _ _ _ _ _) fun A outer s H vs Q E hr h => hbody cdv A outer s H vs Q E hr h
end L2
/-! Own containers: len(o), x in o, list(o) by the class's own __len__, __contains__, __iter__ (that gives iter(a tuple)); own operators without reflected ones; comparisons of two own objects; C(*xs); t == u of tuples of texts. -/
namespace L2
open PySem PySem.Spec PyProof.Rows Er
section
variable {X : Cx} {CX CX1 : CXT} {C f g : Addr} {fd gd : FuncData} {k : Nat} {sp : Sp} {E : XK}
/-- a comparison by the left hand's own method -/
structure LCmp (K : PySem.W.Frag) (C f : Addr) (op : CmpOp) : Prop where
  l : PySem.W.findIn K (.ref C) (cmpInfo op).2.1 = some (some (.ref f))
  lf : PySem.W.isFn K (.ref f) = true
/-- the left hand an own object, the right one anything whose class is known -/
def rCmO (K : PySem.W.Frag) (C : Addr) (sp : Sp) (E : XK) : R2 := fun x y H Q => ∃ a dx fs tb, x = .ref a ∧ H a = some (.ins C dx fs) ∧ TyX K H y tb ∧ PySem.W.notFirst K C tb = true ∧ sp [x, y] H Q E
theorem op_cmO {op : CmpOp} (R : LCmp X.K C f op) (rich : ∀ a b, compareOp op a b = richCompare op a b) (hu : X.A.units < cLine) (F : FnOk X.prog X.w X.K X.mg X.base CX1 k f fd ["self", "other"] sp) (hr : Room k X.A)
    (bF : Binds X.K fd ["self", "other"] []) (hx : Passes CX1 X E) : OpR X (compareOp op) (rCmO X.K C sp E) := by
  intro pins s σ H x y v u Q I rx ry h
  rw [rich]
  obtain ⟨a, dx, fs, tb, rfl, hA, hT, hN, h⟩ := h
  cases rx
  obtain ⟨_, J⟩ := inst_of' I hA
  obtain ⟨P, KT, hP, _⟩ := kit_of I ry hT
  obtain ⟨m, fr⟩ := I.fr
  exact PySem.W.cmp_K hu fr I.ok.mod.kin J (KT.ty _ _ I.kIn hP) hN R.l R.lf (wpAny_mono (run_fn (vs := [.ref a, y]) (us := [.ref a, u]) (dvs := []) F hr bF .nil hx I (.cons rfl (.cons ry .nil)) h) (fun _ _ z => back_of z) (fun _ _ z => z))
end
/-! ### C(*xs) -/
section
variable {X : Cx} {CX : CXT} {k : Nat} {f C : Addr} {sp : Sp} {E : XK} {x : Str} {e : Expr} {te : TE} {p sp_ pos : Pos}
def tMakeS (K : PySem.W.Frag) (C : Addr) (sp : Sp) (E : XK) (te : TE) : TE := fun σ H Q => te σ H fun y H1 => ∃ a xs, y = V.ref a ∧ (SqT K H1 a xs ∨ SqL K H1 a xs) ∧ ∀ x dx, H1 x = Option.none → H1 dx = Option.none → dx ≠ x →
  sp (V.ref x :: xs) (upd (upd H1 dx (.own x)) x (.ins C dx [])) (fun v H2 => v = .non ∧ Q (.ref x) H2) E
end
/-! ### iter(t) of a tuple, list(o) -/
/-! ### t == u of two tuples of texts -/
theorem dp_txts {K : PySem.W.Frag} {H : Hp} {a : Addr} : ∀ L : List Str, DpAll K H (L.map V.str) (L.map PyData.str)
  | [] => .nil
  | z :: r => .cons (.str z) (dp_txts (a := a) r)
theorem strOk_asc {z : Str} (h : ∀ c ∈ z.cps.toList, c < 128) : PyData.strOk z = true := by
  unfold PyData.strOk
  rw [Array.all_eq_true]
  intro i hi
  have m : z.cps[i] ∈ z.cps.toList := by simp
  exact decide_eq_true (Nat.lt_trans (h _ m) (by decide))
/-- signs of the common kind -/
def Asc (L : List Str) : Prop := ∀ z ∈ L, ∀ c ∈ z.cps.toList, c < 128
theorem lay_txts : ∀ L : List Str, Asc L → PyData.canLayAll0 (L.map PyData.str) = true
  | [], _ => rfl
  | z :: r, h => by
    show (PyData.strOk z && PyData.canLayAll0 (r.map PyData.str)) = true
    rw [lay_txts r fun y hy => h y (List.mem_cons_of_mem _ hy), Bool.and_true]
    exact strOk_asc (h z List.mem_cons_self)
theorem depth_txts : ∀ L : List Str, PyData.depthAll (L.map PyData.str) = 0
  | [] => rfl
  | z :: r => by
    show max (PyData.depth (.str z)) (PyData.depthAll (r.map PyData.str)) = 0
    rw [depth_txts r]
    rfl
theorem shaped_txts (L : List Str) (h : Asc L) : SeqAt.shaped (.tuple (L.map PyData.str)) = true := by
  unfold SeqAt.shaped
  have a : PyData.canLay0 (.tuple (L.map PyData.str)) = true := lay_txts L h
  have b : PyData.depth (.tuple (L.map PyData.str)) = PyData.depthAll (L.map PyData.str) + 1 := rfl
  rw [a, b, depth_txts]
  rfl
theorem eqv_txts : ∀ L M : List Str, PyData.eqvAll (L.map PyData.str) (M.map PyData.str) = decide (L = M)
  | [], [] => rfl
  | [], _ :: _ => rfl
  | _ :: _, [] => rfl
  | x :: xs, y :: ys => by
    show ((x == y) && PyData.eqvAll (xs.map PyData.str) (ys.map PyData.str)) = _
    rw [eqv_txts xs ys]
    by_cases e : x = y
    · subst e
      simp
    · have e2 : (x == y) = false := beq_eq_false_iff_ne.mpr e
      rw [e2]
      simp [e]
/-- two tuples of texts -/
def rEqTT (K : PySem.W.Frag) : R2 := fun x y H Q => ∃ (a b : Addr) (L M : List Str), x = .ref a ∧ y = .ref b ∧ SqT K H a (L.map V.str) ∧ SqT K H b (M.map V.str) ∧ Asc L ∧ Asc M ∧ Q (.bl (decide (L = M))) H
theorem op_eqTT {X : Cx} (hu : X.A.units + 64 < cLine) : OpR X (compareOp .Eq) (rEqTT X.K) := fun pins s σ H x y v u Q I rx ry h => by
  obtain ⟨a, b, L, M, rfl, rfl, ha, hb, l1, l2, q⟩ := h
  refine op_eqD hu pins s σ H _ _ v u Q I rx ry ⟨_, _, .tup ha (dp_txts (a := a) L), .tup hb (dp_txts (a := b) M), shaped_txts L l1, shaped_txts M l2, ?_⟩
  have e : PyData.eqv (.tuple (L.map PyData.str)) (.tuple (M.map PyData.str)) = decide (L = M) := eqv_txts L M
  rw [e]
  exact q
end L2
/-! an own operator, and C(*xs), where what is raised is wished for at the caller's slots -/
namespace L2
open PySem PySem.Spec PyProof.Rows Er
end L2
/-! o(x), o and x locals: a term that says nothing of the caller's frame, for use in a comprehension -/
namespace L2
open PySem PySem.Spec PyProof.Rows Er StX
end L2
/-! an own method, defaults and all, where what it raises is wished for at the caller's slots -/
namespace L2
open PySem PySem.Spec PyProof.Rows
end L2
/-! o(x), x any expression: a term that says nothing of the caller's frame; the same where what is raised is wished for at the caller's slots -/
namespace L2
open PySem PySem.Spec PyProof.Rows Er StX
end L2
/-! l == m of two lists of texts -/
namespace L2
open PySem PySem.Spec PyProof.Rows Er
theorem shaped_txtL (L : List Str) (h : Asc L) : SeqAt.shaped (.list (L.map PyData.str)) = true := by
  unfold SeqAt.shaped
  have a : PyData.canLay0 (.list (L.map PyData.str)) = true := lay_txts L h
  have b : PyData.depth (.list (L.map PyData.str)) = PyData.depthAll (L.map PyData.str) + 1 := rfl
  rw [a, b, depth_txts]
  rfl
end L2
/-! l != m of two lists of texts -/
namespace L2
open PySem PySem.Spec PyProof.Rows Er
def rNeLL (K : PySem.W.Frag) : R2 := fun x y H Q => ∃ (a b : Addr) (L M : List Str), x = .ref a ∧ y = .ref b ∧ SqL K H a (L.map V.str) ∧ SqL K H b (M.map V.str) ∧ Asc L ∧ Asc M ∧ Q (.bl (!decide (L = M))) H
theorem op_neLL {X : Cx} (hu : X.A.units + 64 < cLine) : OpR X (compareOp .NotEq) (rNeLL X.K) := fun pins s σ H x y v u Q I rx ry h => by
  obtain ⟨a, b, L, M, rfl, rfl, ha, hb, l1, l2, q⟩ := h
  refine op_neD hu pins s σ H _ _ v u Q I rx ry ⟨_, _, .lst ha (dp_txts (a := a) L), .lst hb (dp_txts (a := b) M), shaped_txtL L l1, shaped_txtL M l2, ?_⟩
  have e : PyData.eqv (.list (L.map PyData.str)) (.list (M.map PyData.str)) = decide (L = M) := eqv_txts L M
  rw [e]
  exact q
end L2
/-! x = e; behind it a token is out. o.replace(y, [z0, z1, z2][i]) of written texts. -/
namespace L2
open PySem PySem.Spec PyProof.Rows
section
variable {X : Cx} {pins : List (Addr × Obj)} {σ : St} {H : Hp} {s : Shared}
/-- a local name is stored: what stands then, and a token is out -/
theorem store_tok {M : Model} {A : Around} {E : Value → Shared → Prop} {i : Nat} {x : Str} {v : V} {u : Value} (I : Inv X pins σ H s) (hN : X.N.Nodup) (hi : X.N[i]? = some x) (hl : X.env.kindOf x = some .local) (r : RelV v u) :
    wpAny M A (storeName X.env x u) (fun _ s' => 1 ≤ s'.toks ∧ Inv X pins (σ.set i (some v)) H s') E s := by
  obtain ⟨m, hn, look⟩ := id I.loc
  have hcls : (X.env.scope.kind == .class || (X.env.scope.kind == .module && X.env.locals != X.env.globals)) = false := by rw [I.ok.kind]; rfl
  have hiσ : i < σ.length := by rw [I.len]; exact (List.getElem?_eq_some_iff.mp hi).1
  refine wpAny_storeName_local hl hn (fun h' hn' sb => ⟨Nat.le_add_left 1 s.toks, ?_⟩) hcls
  have low : ∀ {b : Addr} {o : Obj}, X.s_0.heap.get? b = some o → h'.get? b = s.heap.get? b := fun {b o} e => sb.2 b (Nat.ne_of_lt (Nat.lt_of_lt_of_le (Heap.lt_size e) I.ok.above))
  refine ⟨I.ok, I.os, I.bare, ⟨fun b o e n hb hx => (low e).trans (I.base.keep b o e n hb hx), fun b o e n hb hx => ?_, I.base.free, fun b o e hx => ?_, I.base.tups, I.base.frzs, I.base.tbls⟩, ⟨_, hn', fun j y w e1 e2 e3 => ?_⟩, fun y c e => ?_, I.free, I.freeC, fun p hp => ?_, fun b ob e => ?_, by simpa using I.len⟩
  · obtain ⟨sl, q⟩ := I.base.slot b o e n hb hx
    exact ⟨sl, (low e).trans q⟩
  · obtain ⟨o', q⟩ := I.base.there b o e hx
    exact ⟨o', (low e).trans q⟩
  · by_cases nj : j = i
    · subst nj
      rw [List.getElem?_set_self hiσ] at e2
      cases e2
      have ey : y = x := Option.some.inj (e1.symm.trans hi)
      subst ey
      exact ⟨u, r, .inl ⟨hl, if_pos rfl⟩⟩
    · rw [List.getElem?_set_ne (Ne.symm nj)] at e2
      obtain ⟨u', r', q⟩ := look j y w e1 e2 e3
      have ny : y ≠ x := fun z => nj (nodup_ix hN e1 (z ▸ hi))
      refine ⟨u', r', ?_⟩
      rcases q with ⟨k, e⟩ | ⟨k, c, e, z⟩
      · exact .inl ⟨k, (if_neg ny).trans e⟩
      · exact .inr ⟨k, c, e, z.sameBut sb (I.cne y c e)⟩
  · obtain ⟨w, z⟩ := I.cell y c e
    exact ⟨w, z.sameBut sb (I.cne y c e)⟩
  · obtain ⟨e, nh, ne, nf, d⟩ := I.pin p hp
    exact ⟨(sb.2 p.1 ne).trans e, nh, ne, nf, d⟩
  · refine (I.hok b ob e).stay (fun c w hc q => (sb.2 c ?_).trans q) (fun _ q => q) fun _ _ q => q
    rintro rfl
    rcases hc with hc | hc
    · rw [← hc, I.free] at e
      cases e
    · rw [I.free] at hc
      cases hc
theorem pss_setT {i : Nat} {x : Str} {e : Expr} {te : TE} {rest : List Stmt} {u : TS} {pos' pos : Pos} (hN : X.N.Nodup) (hi : X.N[i]? = some x) (hl : X.env.kindOf x = some .local) (he : PE X e te) (h2 : PSsT X rest u)
    (hs : swapsWith e (some (.Name x pos')) pos.line X.env = pure false := by rfl) : PSs X (.Assign [.Name x pos'] e pos :: rest) (tSeq (tAsg te (gName i)) u) := by
  refine ⟨fun pins s σ H D I h => ?_⟩
  refine wpAny_execs_cons (wpAny_Assign_Name (thn (he.run pins s σ H _ I h) fun v s1 ⟨w, H1, I1, r1, q1⟩ => ?_) hs)
  exact wpAny_mono (store_tok I1 hN hi hl r1) (fun _ s2 q2 => h2 pins s2 _ H1 D q2.1 q2.2 q1) fun _ _ z => z
end
def tRepl3 (to ti : TE) (y z0 z1 z2 : Str) : TE := fun σ H Q => to σ H fun v H1 => ∃ x, v = .str x ∧ ∀ a o, H1 a = none → ti σ (upd H1 a (.frz o (.lst [.str z0, .str z1, .str z2]))) fun w H2 =>
  ∃ (i : Nat) (z : Str), w = .int (i : Int) ∧ [z0, z1, z2][i]? = some z ∧ H2 a = some (.frz o (.lst [.str z0, .str z1, .str z2])) ∧ x.length + (x.length + 1) * z.length ≤ 16777216 ∧ Q (.str (Txt.replace x y z)) H2
theorem pet_repl3 {X : Cx} {o ix : Expr} {to ti : TE} {y z0 z1 z2 : Str} {j k0 k1 k2 : Nat} {c0 p0 p1 p2 lp sp apos pos : Pos} (ho : PE X o to) (hx : PE X ix ti) (hs : PlainIx ix) (hyz : ∀ z ∈ [z0, z1, z2], (y == z) = false)
    (hst : starEach [.Constant (.str y) j c0, .Subscript (.List [.Constant (.str z0) k0 p0, .Constant (.str z1) k1 p1, .Constant (.str z2) k2 p2] lp) ix sp] X.env =
      [(false, eval (.Constant (.str y) j c0) X.env), (false, eval (.Subscript (.List [.Constant (.str z0) k0 p0, .Constant (.str z1) k1 p1, .Constant (.str z2) k2 p2] lp) ix sp) X.env)] := by rfl)
    (hbase : attributeBase o "replace" X.env (eval o X.env) = eval o X.env := by rfl) (hline : (apos.endLine == pos.line) = true := by rfl) :
    PET X (.Call (.Attribute o "replace" apos) [.Constant (.str y) j c0, .Subscript (.List [.Constant (.str z0) k0 p0, .Constant (.str z1) k1 p1, .Constant (.str z2) k2 p2] lp) ix sp] [] pos) (tRepl3 to ti y z0 z1 z2) := by
  intro pins s σ H Q h0 I h
  refine PySem.Call_method2 hbase hst hline (wpAny_mono (PySem.wpAny_toks (ho.run pins s σ H _ I h)) (fun v s1 q => ?_) fun _ _ z => z.2)
  obtain ⟨hk, v', H1, I1, r1, x, e1, q⟩ := q
  subst e1
  obtain ⟨tx, e2⟩ := r1
  subst e2
  refine ⟨"str", _, PySem.F.plainAttrs_str, PySem.F.slot_str_replace, PySem.F.type_str_replace, typeIs_str _ _ _, (fun _ e => nomatch e), Calls.callWith_builtin rfl (Calls.evalArgs_plain (Calls.spliced_cons ?_))⟩
  refine Calls.Constant_str (Calls.spliced_cons (Subscript_ ?_))
  refine wpAny_List_spliced ?_
  show wpAny _ _ (spliced ((false, eval (.Constant (.str z0) k0 p0) X.env) :: backTo lp (starEach [.Constant (.str z1) k1 p1, .Constant (.str z2) k2 p2] X.env))) _ _ _
  refine Calls.spliced_cons (Calls.Constant_str ?_)
  show wpAny _ _ (spliced ((false, eval (.Constant (.str z1) k1 p1) X.env) :: backTo lp (starEach [.Constant (.str z2) k2 p2] X.env))) _ _ _
  refine Calls.spliced_cons (Calls.Constant_str ?_)
  show wpAny _ _ (spliced ((false, eval (.Constant (.str z2) k2 p2) X.env) :: backTo lp (starEach [] X.env))) _ _ _
  refine Calls.spliced_cons (Calls.Constant_str (Calls.spliced_nil ?_))
  have h3 : (3 : Nat) ≤ sizeLine := by decide
  have pos1 : 1 ≤ s1.toks := Nat.le_trans h0 hk
  refine ⟨h3, ?_⟩
  have J : Inv X pins σ (upd H1 s1.heap.objs.size (.frz { cls := .type "list", data := .seq #[.str z0 (s1.toks + 1), .str z1 (s1.toks + 1 + 1), .str z2 (s1.toks + 1 + 1 + 1)] 0 } (.lst [.str z0, .str z1, .str z2]))) { s1 with heap := s1.heap.push { cls := .type "list", data := .seq #[.str z0 (s1.toks + 1), .str z1 (s1.toks + 1 + 1), .str z2 (s1.toks + 1 + 1 + 1)] 0 }, toks := s1.toks + 1 + 1 + 1 + 1 } :=
    I1.laid (t' := s1.toks + 1 + 1 + 1 + 1) (fun b u e => Heap.get?_push_of_some _ e) (Nat.le_refl _) ⟨Heap.get?_push_size _ rfl, h3, [.str z0 (s1.toks + 1), .str z1 (s1.toks + 1 + 1), .str z2 (s1.toks + 1 + 1 + 1)], 0, .cons ⟨_, rfl⟩ (.cons ⟨_, rfl⟩ (.cons ⟨_, rfl⟩ .nil)), Heap.get?_push_size _ rfl⟩
  refine thn (hx.run pins _ σ _ _ J (q _ _ (I1.hok.fresh (Nat.le_refl _)))) fun w s2 ⟨w', H2, I2, r2, i, z, ew, ez, ha, hb, q2⟩ => ?_
  subst ew
  obtain ⟨tw, e4⟩ := r2
  subst e4
  obtain ⟨h5, _⟩ := I2.hok _ _ ha
  have isL : s2.heap.IsList s1.heap.objs.size #[.str z0 (s1.toks + 1), .str z1 (s1.toks + 1 + 1), .str z2 (s1.toks + 1 + 1 + 1)] := ⟨_, h5, rfl, 0, rfl⟩
  have item : ∃ u, (#[Value.str z0 (s1.toks + 1), .str z1 (s1.toks + 1 + 1), .str z2 (s1.toks + 1 + 1 + 1)] : Array Value)[i]? = some (.str z u) ∧ s1.toks < u := by
    match i, ez with
    | 0, e => cases e; exact ⟨_, rfl, by omega⟩
    | 1, e => cases e; exact ⟨_, rfl, by omega⟩
    | 2, e => cases e; exact ⟨_, rfl, by omega⟩
  obtain ⟨u, hu, lu⟩ := item
  have li : i < 3 := (List.getElem?_eq_some_iff.mp ez).1
  refine item_listR isL (Int.natCast_nonneg i) (by omega) hu ?_ (hs _ _)
  refine Calls.spliced_nil ?_
  exact PySem.SC.replace (Nat.pos_iff_ne_zero.mp pos1) (Nat.ne_of_gt (Nat.lt_of_le_of_lt (Nat.zero_le _) lu)) (Nat.ne_of_lt lu) (hyz z (List.mem_of_getElem? ez)) hb fun t' k => ⟨.str (Txt.replace x y z), H2, I2.tok k, ⟨t', rfl⟩, q2⟩
end L2
/-! C(..) and C(*xs) of an own class where what its __init__ raises is wished for at the caller's slots -/
namespace L2
open PySem PySem.Spec PyProof.Rows
def tMakeSS (K : PySem.W.Frag) (C : Addr) (sp : Sp) (E : St → XK) (te : TE) : TE := fun σ H Q => tMakeS K C sp (E σ) te σ H Q
section
variable {X : Cx} {CX : CXT} {k : Nat} {f C : Addr} {sp : Sp} {E : St → XK} {x : Str} {e : Expr} {es : List Expr} {te : TE} {t : TA} {p sp_ pos : Pos}
theorem run_makeRAt {pins : List (Addr × Obj)} {σ : L2.St} {H : Hp} {s : Shared} {Q : VK} {us : List Value} {vs : List V} (M : Mk X.K C f) (F : FnR X.prog X.w X.K X.mg X.base CX k f sp) (hr : Room (k + 1) X.A) (hx : PassesAt CX X σ (E σ)) (I : Inv X pins σ H s) (r : Vals vs us)
    (h : ∀ x dx, H x = Option.none → H dx = Option.none → dx ≠ x → sp (V.ref x :: vs) (upd (upd H dx (.own x)) x (.ins C dx [])) (fun v H2 => v = .non ∧ Q (.ref x) H2) (E σ)) :
    wpAny (model X.prog X.w) X.A (call (.ref C) us) (EP X pins σ Q) X.xe s := by
  have hq := h (s.heap.objs.size + 1) s.heap.objs.size (I.hok.fresh (Nat.le_succ _)) (I.hok.fresh (Nat.le_refl _)) (Nat.ne_of_lt (Nat.lt_succ_self _))
  have I2 := Inv.made (C := C) I
  have r2 : Vals (V.ref (s.heap.objs.size + 1) :: vs) (Value.ref (s.heap.objs.size + 1) :: us) := .cons rfl r
  refine wpAny_call (make_map (f := f) I.kIn M.makes M.init (beq_iff_eq.mp M.fn) (codeAny_mono (F _ X.stack _ _ (Value.ref (s.heap.objs.size + 1) :: us) _ _ (E σ) (hr.make C us []) (I2.env0.make C us []) r2 hq) fun r s' hq' => ?_))
  cases r with
  | error e => exact hx pins _ _ e s' I2 hq'
  | ok fl =>
    cases fl with
    | ret u =>
      obtain ⟨v, H', I3, rv, ev, q3⟩ := I2.after hq'
      subst ev
      exact ⟨rv, ⟨V.ref (s.heap.objs.size + 1), H', I3, rfl, q3⟩⟩
    | next => exact False.elim hq'
    | brk => exact False.elim hq'
    | cont => exact False.elim hq'
end
end L2
/-! try: .. except (A, B, ..) as n: with a suite that raises, «raise X(..) from n». -/
namespace L2R
open PySem PySem.Spec PyProof.Rows L2 HotX
section
variable {X : Cx} {pins : List (Addr × Obj)} {σ : L2.St} {H : Hp} {s : Shared}
/-- the name of the clause goes, said of the heap alone -/
theorem gone_inv {i : Nat} {n : Str} (I : Inv X pins σ H s) (hN : X.N.Nodup) (hi : X.N[i]? = some n) (hl : X.env.kindOf n = some .local) :
    ∃ m, s.heap.Ns X.env.locals m ∧ ∀ (s' : Shared) (v : Option Value), s'.heap.Ns X.env.locals (fun x => if x = n then v else m x) → Heap.SameBut X.env.locals s.heap s'.heap → s'.os = s.os → AllBare s'.gens → Inv X pins (σ.set i none) H s' := by
  obtain ⟨m, hn, look⟩ := id I.loc
  refine ⟨m, hn, fun s' v hn' sb ho hg => ?_⟩
  have low : ∀ {b : Addr} {o : Obj}, X.s_0.heap.get? b = some o → s'.heap.get? b = s.heap.get? b := fun {b o} e => sb.2 b (Nat.ne_of_lt (Nat.lt_of_lt_of_le (Heap.lt_size e) I.ok.above))
  refine ⟨I.ok, ho.trans I.os, hg, ⟨fun b o e n hb hx => (low e).trans (I.base.keep b o e n hb hx), fun b o e n hb hx => ?_, I.base.free, fun b o e hx => ?_, I.base.tups, I.base.frzs, I.base.tbls⟩, ⟨_, hn', fun j y w e1 e2 e3 => ?_⟩, fun y c e => ?_, I.free, I.freeC, fun p hp => ?_, fun b ob e => ?_, by simpa using I.len⟩
  · obtain ⟨sl, q⟩ := I.base.slot b o e n hb hx
    exact ⟨sl, (low e).trans q⟩
  · obtain ⟨o', q⟩ := I.base.there b o e hx
    exact ⟨o', (low e).trans q⟩
  · have nj : j ≠ i := fun z => by
      rw [z] at e2
      by_cases lt : i < σ.length
      · rw [List.getElem?_set_self lt] at e2
        cases e2
      · rw [List.getElem?_eq_none (by simpa using lt)] at e2
        cases e2
    rw [List.getElem?_set_ne (Ne.symm nj)] at e2
    obtain ⟨u, r, q⟩ := look j y w e1 e2 e3
    have ny : y ≠ n := fun z => nj (nodup_ix hN e1 (z ▸ hi))
    refine ⟨u, r, ?_⟩
    rcases q with ⟨k, e⟩ | ⟨k, c, e, z⟩
    · exact .inl ⟨k, (if_neg ny).trans e⟩
    · exact .inr ⟨k, c, e, z.sameBut sb (I.cne y c e)⟩
  · obtain ⟨w, z⟩ := I.cell y c e
    exact ⟨w, z.sameBut sb (I.cne y c e)⟩
  · obtain ⟨e, nh, ne, nf, d⟩ := I.pin p hp
    exact ⟨(sb.2 p.1 ne).trans e, nh, ne, nf, d⟩
  · refine (I.hok b ob e).stay (fun c w hc q => (sb.2 c ?_).trans q) (fun _ q => q) fun _ _ q => q
    rintro rfl
    rcases hc with hc | hc
    · rw [← hc, I.free] at e
      cases e
    · rw [I.free] at hc
      cases hc
end
theorem traced_but {h h' B : Heap} {e L : Addr} {Z : Obj → Prop} {fl : Value} {m : Str → Option Value} (x : HandSPX.TracedZ h B e Z fl) (hn : h.Ns L m) (sb : Heap.SameBut L h h') : HandSPX.TracedZ h' B e Z fl := by
  obtain ⟨oe, vs, T, oT, ts, he, hz, hd, h1, hT0, hTe, hT, hdT, h3⟩ := x
  obtain ⟨oL, es, ep, hL, hdL, _⟩ := hn
  have rec_ne : ∀ {b : Addr} {o : Obj} {us : Array Value}, h.get? b = some o → o.data = .fields us → b ≠ L := fun {b o us} e1 e2 z => by
    rw [z, hL] at e1
    cases e1
    rw [hdL] at e2
    cases e2
  exact ⟨oe, vs, T, oT, ts, (sb.2 e (rec_ne he hd)).trans he, hz, hd, h1, hT0, hTe, (sb.2 T (rec_ne hT hdT)).trans hT, hdT, h3⟩
theorem fly_keeps {h h' B : Heap} {l : List Env} {e : Addr} {Z : Obj → Prop} (x : HandSPX.FlyingZ B l e Z h) (k : ∀ b o, h.get? b = some o → h'.get? b = some o) : HandSPX.FlyingZ B l e Z h' := by
  obtain ⟨a1, a2, a3, oe, vs, T, oT, ts, he, hz, hd, h1, hT0, hTe, hT, hdT, h3⟩ := x
  exact ⟨fun b o q => k b o (a1 b o q), a2, a3.of_keeps fun b o q _ => ⟨o, k b o q, rfl⟩, oe, vs, T, oT, ts, k _ _ he, hz, hd, h1, hT0, hTe, k _ _ hT, hdT, h3⟩
/-- the heap with the frame's names as they stand in another one -/
theorem laid_over {g h : Heap} {L : Addr} {m m' : Str → Option Value} (hn : g.Ns L m) (hn' : h.Ns L m') : ∃ g', Heap.SameBut L g g' ∧ g'.Ns L m' ∧ g'.get? L = h.get? L := by
  obtain ⟨o, _, _, ho, _⟩ := hn
  obtain ⟨o', es, ep, ho', hd', sk, hf⟩ := hn'
  have fr : o'.isFreed = false := Obj.isFreed_of_dict hd'
  have self : (g.update L fun _ => o').get? L = some o' := Heap.get?_update_self (fun _ => o') ho fr
  exact ⟨g.update L fun _ => o', ⟨by simp [Heap.update], fun b hb => Heap.get?_update_other _ _ (Ne.symm hb)⟩, ⟨o', es, ep, self, hd', sk, hf⟩, self.trans ho'.symm⟩
/-- what becomes of an error that the suite lets out: it is noted, the name goes, it is passed on -/
def outR (X : Cx) (a : Addr) (n : Str) (pos : Pos) (x : Value) (s : Shared) : Prop :=
  wpAny (model X.prog X.w) (X.A.mark (some (.ref a))) (noteFrame x X.env) (fun _ s1 =>
    wpAny (model X.prog X.w) (X.A.mark (some (.ref a))) (do bindName X.env n .none; unbindBehindTheSuite X.env n pos) (fun _ s2 =>
      wpAny (model X.prog X.w) (X.A.mark (some (.ref a))) (passOn "try.except-as" x X.env : Sem Flow) (fun _ _ => False) (notedBy (model X.prog X.w) (X.A.mark (some (.ref a))) X.env (cameBackBy (model X.prog X.w) X.A X.env X.xe)) s2)
      (fun _ _ => False) s1) (fun _ _ => False) s
/-- the context of such a suite -/
abbrev suiteR (X : Cx) (a : Addr) (n : Str) (pos : Pos) (pn : List (Addr × Obj)) : Cx := { X with A := X.A.mark (some (.ref a)), calm := false, pn := pn, xe := outR X a n pos }
section
variable {X : Cx} {pins : List (Addr × Obj)} {σ : L2.St} {H : Hp} {s : Shared}
theorem suiteR_of {a : Addr} {n : Str} {pos : Pos} {pn pn' : List (Addr × Obj)} (I : Inv (X.suite a pn) pn' σ H s) : Inv (suiteR X a n pos pn) pn' σ H s := Inv.unwish (X := suiteR X a n pos pn) (E := fun _ _ => False) I
theorem unsuiteR {a : Addr} {n : Str} {pos : Pos} {q : Addr × Obj} {pn' : List (Addr × Obj)} (I : Inv (suiteR X a n pos (q :: (X.pn ++ pins))) pn' σ H s) (ok : X.Ok) : Inv X pins σ H s :=
  Inv.unsuite (X := X) (a := a) (q := q) (pn' := pn') (show Inv (X.suite a (q :: (X.pn ++ pins))) pn' σ H s from I.wish fun _ _ => False) ok
theorem takesR {Wout : WX} {a : Addr} {i : Nat} {n : Str} {pos : Pos} {q : Addr × Obj} (ok : X.Ok) (hs : X.stack = X.env :: X.outer) (hf : X.env.frame = some X.env.locals) (hN : X.N.Nodup) (hi : X.N[i]? = some n) (hln : X.env.kindOf n = some .local)
    (hpa : ∀ hd : Option Value, PassesOwnAt (model X.prog X.w) (X.A.mark hd) X.A X.env X.xe) (tk : L2.Takes X Wout) :
    L2.Takes (suiteR X a n pos (q :: (X.pn ++ pins))) (fun cls d σ H => Wout cls d (σ.set i none) H) := by
  intro u s2 x2
  obtain ⟨e, B, sI, pn2, σ2, H2, cls, d, rfl, I2, nb, up, sky, na, os, ag, w⟩ := x2
  have J : Inv X pins σ2 H2 sI := unsuiteR I2 ok
  have fr : (X.A.mark (some (.ref a))).frames = some (X.env :: X.outer) := by
    show X.A.frames = _
    rw [ok.frames, hs]
  have sky' : L2.Sky B (X.env :: X.outer) e (Zc cls d) X.env.locals s2.heap := by rw [← hs]; exact sky
  obtain ⟨m, hn, gone⟩ := gone_inv J hN hi hln
  have hcls : (X.env.scope.kind == .class || (X.env.scope.kind == .module && X.env.locals != X.env.globals)) = false := by rw [ok.kind]; rfl
  show wpAny _ _ (noteFrame (.ref e) X.env) _ _ _
  have fin : ∀ h1, HandSPX.HeldZ B (X.env :: X.outer) e (Zc cls d) X.env.locals h1 → s2.heap.UpToSlots h1 →
      wpAny (model X.prog X.w) (X.A.mark (some (.ref a))) (do bindName X.env n .none; unbindBehindTheSuite X.env n pos) (fun _ s2 =>
        wpAny (model X.prog X.w) (X.A.mark (some (.ref a))) (passOn "try.except-as" (.ref e) X.env : Sem Flow) (fun _ _ => False) (notedBy (model X.prog X.w) (X.A.mark (some (.ref a))) X.env (cameBackBy (model X.prog X.w) X.A X.env X.xe)) s2)
        (fun _ _ => False) { s2 with heap := h1 } := by
    intro h1 held up1
    have hn1 : h1.Ns X.env.locals m := (up.trans up1).ns hn
    refine wpAny_nameGoes_keeps hln hn1 hcls fun h2 v hn2 sb2 => ?_
    obtain ⟨b1, b0, f1, t1⟩ := held
    have bL : B.get? X.env.locals = none := (f1.mem (List.mem_filterMap.mpr ⟨X.env, List.mem_cons_self, hf⟩)).1
    have b2 : B.StaysIn h2 := fun b o hb => (sb2.2 b fun z => by rw [z, bL] at hb; cases hb).trans (b1 b o hb)
    have f2 : h2.FunFrames B (X.env :: X.outer) := Heap.FunFrames.sameBut sb2 hn2 f1
    have t2 := traced_but t1 hn1 sb2
    have held2 : HandSPX.HeldZ B (X.env :: X.outer) e (Zc cls d) X.env.locals h2 := ⟨b2, b0, f2, t2⟩
    obtain ⟨oe, vs, T, oT, ts, he, hz, hd, hT, _⟩ := id t2
    have on : wpAny (model X.prog X.w) (X.A.mark (some (.ref a))) (setFlight (.ref e) X.env.frame) (fun _ s4 => wpAny (model X.prog X.w) (X.A.mark (some (.ref a))) (throw (.ref e) : Sem Flow) (fun _ _ => False) (notedBy (model X.prog X.w) (X.A.mark (some (.ref a))) X.env (cameBackBy (model X.prog X.w) X.A X.env X.xe)) s4) (notedBy (model X.prog X.w) (X.A.mark (some (.ref a))) X.env (cameBackBy (model X.prog X.w) X.A X.env X.xe)) { s2 with heap := h2, toks := s2.toks + 1 } := by
      rw [hf]
      refine HandSPX.setFlight_onZ held2 fun h3 held3 up3 => wpAny_throw (hpa (some (.ref a)) _ _ (tk _ _ ?_))
      obtain ⟨g, gs, gn, gl⟩ := laid_over hn hn2
      refine ⟨e, B, { sI with heap := g }, pins, σ2.set i none, H2, cls, d, rfl, gone _ v gn gs rfl J.bare, fun b o hb nbf => ?_, fun b o hb nd => ?_, .inr (.inr (by rw [hs]; exact held3)), na, os, ag, w⟩
      · have nL : b ≠ X.env.locals := fun z => nbf (by rw [z, hs]; exact List.mem_filterMap.mpr ⟨X.env, List.mem_cons_self, hf⟩)
        exact nb b o ((gs.2 b nL).symm.trans hb) nbf
      · by_cases hL : b = X.env.locals
        · subst hL
          exact up3 _ o (gl.symm.trans hb) nd
        · obtain ⟨sl, q1⟩ := (up.trans up1) b o ((gs.2 b hL).symm.trans hb) nd
          obtain ⟨sl2, q2⟩ := up3 b _ ((sb2.2 b hL).trans q1) nd
          exact ⟨sl2, q2⟩
    unfold PySem.passOn
    refine wpAny_bind (wpAny_field he hd hT ?_)
    rw [if_neg (show ¬ ((Value.ref T == Value.none) = true) from by simp)]
    first
      | exact wpAny_bind (wpAny_pure (wpAny_bind on))
      | exact wpAny_bind on
  rcases sky' with ⟨hB, hn0, hl, oe, vs, he, hz, hd, h1⟩ | fl | hh
  · exact HandSPX.look_newZ Zc.steady fr hl hf he hB hn0 hd h1 hz fin
  · exact HandSPX.looks_onZ Zc.steady fr hf fl fin
  · exact HandSPX.againZ hf hh.2.2.2 (fin s2.heap hh (Heap.UpToSlots.refl _))
end
/-- what the clause's test says of an error -/
def HTest (X : Cx) (t : Expr) (cs : List Value) : Prop :=
  ∀ (a : Addr) (pn pins : List (Addr × Obj)) (σ : L2.St) (H : Hp) (s : Shared) (cls : Value) (b : Bool) (Q : Bool → Shared → Prop) (E : Value → Shared → Prop), Inv (X.suite a pn) pins σ H s → PySem.W.Looks (model X.prog X.w) s.heap (typeOf (.ref a)) cls → PySem.W.exmAny X.K cls cs = some b →
    (∀ h', (∀ q o, s.heap.get? q = some o → h'.get? q = some o) → Q b { s with heap := h' }) →
    wpAny (model X.prog X.w) (X.A.mark (some (.ref a))) (eval t X.env) (fun c s1 => wpAny (model X.prog X.w) (X.A.mark (some (.ref a))) (excMatches (.ref a) c) Q E s1) E s
theorem name_read {X : Cx} {x : Str} {c : Value} {a : Addr} {pn pins : List (Addr × Obj)} {σ : L2.St} {H : Hp} {s : Shared} {np : Pos} {Q E : Value → Shared → Prop} (n : Names X x c) (I : Inv (X.suite a pn) pins σ H s) (q : Q c s) :
    wpAny (model X.prog X.w) (X.A.mark (some (.ref a))) (eval (.Name x np) X.env) Q E s := by
  obtain ⟨g, dbg, m | ⟨m, v, nn⟩⟩ := n
  · exact ld_glob (X := X.suite a pn) I g m q dbg
  · exact ld_blt (X := X.suite a pn) I g m v q nn dbg
theorem htest3 {X : Cx} {x1 x2 x3 : Str} {c1 c2 c3 : Value} {p1 p2 p3 tp : Pos} {k : Nat} (n1 : Names X x1 c1) (n2 : Names X x2 c2) (n3 : Names X x3 c3) : HTest X (.Tuple [.Name x1 p1, .Name x2 p2, .Name x3 p3] k tp) [c1, c2, c3] := by
  intro a pn pins σ H s cls b Q E I LT e q
  refine wpAny_Tuple (wpAny_items_cons (name_read n1 I (wpAny_items_cons (name_read n2 I (wpAny_items_cons (name_read n3 I (wpAny_items_nil ⟨by size_fits, ?_⟩)))))))
  have kp : ∀ q o, s.heap.get? q = some o → (s.heap.push { cls := .type "tuple", data := .seq [c1, c2, c3].toArray }).get? q = some o := fun _ _ z => Heap.get?_push_of_some _ z
  exact (PySem.W.exm_tup3 (I.kIn.keeps kp) (LT.keeps kp) (Heap.get?_push_size s.heap rfl) e).here (q _ kp)
/-- what is wished of an exception of the body -/
def wRf (K : PySem.W.Frag) (cs : List Value) (i : Nat) (ts : Addr → Value → Option Addr → TS) (Wout : WX) (D : Ends) : WX := fun cls d σ H =>
  ∃ b, PySem.W.exmAny K cls cs = some b ∧ (b = true → ∀ a, H a = none → ts a cls d { nx := fun σ' H' => D.nx (σ'.set i none) H', rt := D.rt, bk := fun σ' H' => D.bk (σ'.set i none) H', ct := fun σ' H' => D.ct (σ'.set i none) H' } (σ.set i (some (.ref a))) H) ∧
    (b = false → Wout cls d σ H)
section
variable {X : Cx} {n : Str} {i : Nat} {t : Expr} {cs : List Value} {body suite : List Stmt} {b₀ : Stmt} {pos pos' : Pos} {tb : WX → TS} {ts : Addr → Value → Option Addr → TS} {Wout : WX}
theorem ps_try_rf (hs : X.stack = X.env :: X.outer) (hf : X.env.frame = some X.env.locals) (hN : X.N.Nodup) (hi : X.N[i]? = some n) (hln : X.env.kindOf n = some .local) (hpa : ∀ hd : Option Value, PassesOwnAt (model X.prog X.w) (X.A.mark hd) X.A X.env X.xe) (tk : L2.Takes X Wout)
    (ht : HTest X t cs) (hb : ∀ (W : WX) (pn : List (Addr × Obj)) (xe : Value → Shared → Prop), L2N.Takes (X.tr pn xe) W → PassesOwn (model X.prog X.w) X.A X.env xe → PSs (X.tr pn xe) body (tb W))
    (hsu : ∀ (a : Addr) (oe : Obj) (cls : Value) (d : Option Addr) (pn : List (Addr × Obj)), L2N.Zn cls d oe → (∃ vs, oe.data = .fields vs) → L2.Takes (suiteR X a n pos' ((a, oe) :: pn)) (fun cls d σ H => Wout cls d (σ.set i none) H) → L2H.HotC (suiteR X a n pos' ((a, oe) :: pn)) →
      PSs (suiteR X a n pos' ((a, oe) :: pn)) (b₀ :: suite) (ts a cls d)) :
    PS X (.Try body [.ExceptHandler (some t) (some n) (b₀ :: suite) pos'] [] [] pos) (fun D σ H => tb (wRf X.K cs i ts Wout D) D σ H) := by
  refine ⟨fun pins s σ H D I todo => ?_⟩
  have ok := I.ok
  have fr : X.A.frames = some (X.env :: X.outer) := by rw [ok.frames, hs]
  have isLoc : Loc X.env.scope n := .inl hln
  let caught : Value → Shared → Prop := fun e s₁ => wpAny (model X.prog X.w) X.A (noteFrame e X.env) (fun _ s₂ => wpAny (model X.prog X.w) X.A (setFlight e none) (fun _ s₃ => wpAny (model X.prog X.w) X.A (handleBy e X.env [.ExceptHandler (some t) (some n) (b₀ :: suite) pos']) (SP X pins D) X.xe s₃) X.xe s₂) X.xe s₁
  refine wpAny_Try_except (wpAny_mono ((hb (wRf X.K cs i ts Wout D) (X.pn ++ pins) caught (fun u s' air => ?_) PassesOwn.looking).run [] s σ H D (I.toTry _) todo) (fun f s1 done => ?_) fun e s1 z => z)
  · obtain ⟨a, B, sI, pins', σ', H', cls, d, rfl, J0, nb, up, sky, na, os, ag, b, hb1, yes, no⟩ := air
    have J : Inv X pins σ' H' sI := J0.ofTry ok
    have sky' : L2.Sky B (X.env :: X.outer) a (L2N.Zn cls d) X.env.locals s'.heap := by rw [← hs]; exact sky
    show wpAny (model X.prog X.w) X.A (noteFrame (.ref a) X.env) _ _ _
    refine L2N.Sky.land L2N.Zn.steady fr hf sky' fun h3 fly up3 => ?_
    have J3 : Inv X pins σ' H' { s' with heap := h3 } := J.landed nb fly.1 (up.trans up3) os ag
    obtain ⟨oe3, vs3, he3, hz3, hd3⟩ := fly.there
    have offA : a ∉ frs (X.env :: X.outer) := fun m => by
      obtain ⟨_, o', e', nf⟩ := fly.2.2.1.mem m
      rw [he3] at e'
      cases e'
      exact nf _ hd3
    have noL : a ≠ X.env.locals := fun z => offA (List.mem_filterMap.mpr ⟨X.env, List.mem_cons_self, by rw [hf, z]⟩)
    have noF : a ∉ X.fs := fun m => let ⟨x, hx, q⟩ := List.mem_filterMap.mp m; offA (List.mem_filterMap.mpr ⟨x, List.mem_cons_of_mem _ hx, q⟩)
    have S3 := J3.suite he3 hd3 na noL noF
    refine wpAny_handleBy_cons (codeAny_handlers_test ?_) (by intro q; cases q)
    have kind : PySem.W.Looks (model X.prog X.w) h3 (typeOf (.ref a)) cls := fun A Q E s k q => wpAny_typeOf_ref (k _ _ he3) (by rw [hz3.1]; exact q)
    refine ht a _ [] _ _ _ cls b _ _ S3 kind hb1 fun h4 k4 => ?_
    have fly4 := fly_keeps fly k4
    have up4 : h3.UpToSlots h4 := Heap.UpToSlots.of_keeps k4
    cases b with
    | true =>
      refine codeAny_handlers_suite_as (HandSPX.lands_againZ fly4 fun h5 fly5 up5 => ?_)
      have J5 : Inv X pins σ' H' { s' with heap := h5 } := J.landed nb fly5.1 (((up.trans up3).trans up4).trans up5) os ag
      obtain ⟨o5, v5, at5, z5, d5⟩ := fly5.there
      have S5 := J5.suite at5 d5 na noL noF
      refine store_ok (X := X.suite a ((a, o5) :: (X.pn ++ pins))) (v := .ref a) S5 hN hi isLoc rfl (fun s6 S6 => ?_) (.inr hln)
      have hot : L2H.HotC (suiteR X a n pos' ((a, o5) :: (X.pn ++ pins))) := ⟨(a, o5), ⟨rfl, v5, d5, z5.2.2 v5 d5⟩, List.mem_cons_self⟩
      refine wpAny_mono ((hsu a o5 cls d (X.pn ++ pins) z5 ⟨_, d5⟩ (takesR ok hs hf hN hi hln hpa tk) hot).run [] s6 _ H' _ (suiteR_of S6) (yes rfl a na)) (fun f s7 done => ?_) (fun e7 s7 z => ?_)
      · have gone : ∀ {σ7 : L2.St} {H7 : Hp} {Q : Shared → Prop}, Inv (suiteR X a n pos' ((a, o5) :: (X.pn ++ pins))) [] σ7 H7 s7 → (∀ s8, Inv X pins (σ7.set i none) H7 s8 → Q s8) →
            wpAny (model X.prog X.w) X.A (do bindName X.env n .none; unbindBehindTheSuite X.env n pos') (fun _ s8 => Q s8) X.xe s7 := fun S7 q => gone_ok (unsuiteR S7 ok) hN hi hln q
        match f, done with
        | .next, ⟨σ7, H7, S7, q⟩ => exact gone S7 fun s8 J8 => ⟨_, _, J8, q⟩
        | .brk, ⟨σ7, H7, S7, q⟩ => exact gone S7 fun s8 J8 => ⟨_, _, J8, q⟩
        | .cont, ⟨σ7, H7, S7, q⟩ => exact gone S7 fun s8 J8 => ⟨_, _, J8, q⟩
        | .ret u, ⟨v7, σ7, H7, S7, r7, q⟩ => exact gone S7 fun s8 J8 => ⟨_, _, _, J8, r7, q⟩
      · exact wpAny_mono (show outR X a n pos' e7 s7 from z) (fun _ s8 q8 => wpAny_mono q8 (fun _ s9 q9 => q9) fun _ _ z => z.elim) fun _ _ z => z.elim
    | false =>
      show wpAny _ X.A (handleBy (.ref a) X.env []) _ _ _
      obtain ⟨_, _, _, oe, vs, T, oT, ts', he, hz, hd, h1, hr⟩ := id fly4
      refine wpAny_handleBy_nil ?_
      unfold PySem.passOn
      refine wpAny_bind (wpAny_field he hd h1 ?_)
      rw [if_neg (show ¬ ((Value.ref T == Value.none) = true) from by simp)]
      have on : wpAny (model X.prog X.w) X.A (setFlight (.ref a) X.env.frame) (fun _ s4 => wpAny (model X.prog X.w) X.A (throw (.ref a) : Sem Flow) (SP X pins D) X.xe s4) X.xe { s' with heap := h4 } := by
        rw [hf]
        refine HandSPX.setFlight_upZ (L2H.flyingZ_imp (fun o z => z.zc) fly4) fun h5 held up5 => wpAny_throw (tk _ _ ⟨a, B, sI, pins, σ', H', cls, d, rfl, J, nb, ((up.trans up3).trans up4).trans up5, .inr (.inr (by rw [hs]; exact held)), na, os, ag, no rfl⟩)
      first
        | exact wpAny_bind (wpAny_pure (wpAny_bind on))
        | exact wpAny_bind on
  · match f, done with
    | .next, ⟨σ', H', J, q⟩ => exact wpAny_execs_nil ⟨σ', H', J.ofTry ok, q⟩
    | .brk, ⟨σ', H', J, q⟩ => exact ⟨σ', H', J.ofTry ok, q⟩
    | .cont, ⟨σ', H', J, q⟩ => exact ⟨σ', H', J.ofTry ok, q⟩
    | .ret u, ⟨v, σ', H', J, r, q⟩ => exact ⟨v, σ', H', J.ofTry ok, r, q⟩
end
/-! ### raise X(..) from n -/
/-- the heap where a cause is noted -/
def causeAt (h : Heap) (a : Addr) (c : Value) : Heap := (h.update a (Obj.mapFields (·.setIfInBounds 3 c))).update a (Obj.mapFields (·.setIfInBounds 4 (.bool true)))
theorem causeAt_at {h : Heap} {a : Addr} {c : Value} {oe : Obj} {vs : Array Value} (ha : h.get? a = some oe) (hd : oe.data = .fields vs) :
    (causeAt h a c).get? a = some ((oe.mapFields (·.setIfInBounds 3 c)).mapFields (·.setIfInBounds 4 (.bool true))) ∧ ((oe.mapFields (·.setIfInBounds 3 c)).mapFields (·.setIfInBounds 4 (.bool true))).data = .fields ((vs.setIfInBounds 3 c).setIfInBounds 4 (.bool true)) := by
  have d3 := Obj.data_mapFields hd (·.setIfInBounds 3 c)
  have a3 := Heap.get?_update_self (Obj.mapFields (·.setIfInBounds 3 c)) ha (Obj.isFreed_of_fields d3)
  have d4 := Obj.data_mapFields d3 (·.setIfInBounds 4 (.bool true))
  exact ⟨Heap.get?_update_self (Obj.mapFields (·.setIfInBounds 4 (.bool true))) a3 (Obj.isFreed_of_fields d4), d4⟩
theorem causeAt_other {h : Heap} {a b : Addr} {c : Value} (hne : a ≠ b) : (causeAt h a c).get? b = h.get? b := by
  unfold causeAt
  rw [Heap.get?_update_other _ _ hne, Heap.get?_update_other _ _ hne]
section
variable {prog : Program} {w : World} {A : Around} {E : Value → Shared → Prop} {s : Shared}
theorem not_type {a : Addr} {oe : Obj} {vs : Array Value} (ha : s.heap.get? a = some oe) (hd : oe.data = .fields vs) {Q : Bool → Shared → Prop} (q : Q false s) : wpAny (model prog w) A (isType (.ref a)) Q E s := by
  simp only [isType, loadHead]
  refine wpAny_bind (wpAny_loadPart ha ?_)
  rw [hd]
  exact wpAny_pure q
theorem is_exc {a : Addr} {oe : Obj} {vs : Array Value} (ha : s.heap.get? a = some oe) (hd : oe.data = .fields vs) (L : PySem.W.Looks (model prog w) s.heap (isSubtype oe.cls (.type "BaseException")) true) {msg : String} {Q : Value → Shared → Prop} (q : Q (.ref a) s) :
    wpAny (model prog w) A (excFromValue (.ref a) msg) Q E s := by
  have LT : PySem.W.Looks (model prog w) s.heap (typeOf (.ref a)) oe.cls := fun A Q E s k q => wpAny_typeOf_ref (k _ _ ha) q
  have LI : PySem.W.Looks (model prog w) s.heap (isInstance (.ref a) (.type "BaseException")) true := LT.andThen L
  unfold excFromValue isExcClass
  refine wpAny_bind (wpAny_bind (not_type ha hd ?_))
  simp only [Bool.false_eq_true, if_false]
  refine wpAny_pure ?_
  simp only [Bool.false_eq_true, if_false]
  refine wpAny_bind (LI.here ?_)
  simp only [if_true]
  exact wpAny_pure q
theorem raise_made_hotF {env : Env} {x c : Sem Value} {Q : Flow → Shared → Prop} {x1 : Addr}
    (h : wpAny (model prog w) A x (fun v s₁ => ∃ a oe vs o1 v1, v = .ref a ∧ s₁.heap.get? a = some oe ∧ oe.data = .fields vs ∧ vs[1]? = some .none ∧ 4 < vs.size ∧ x1 ≠ a ∧ HotAt A x1 s₁.heap ∧ s₁.heap.get? x1 = some o1 ∧ o1.data = .fields v1 ∧
      (∀ Q' : Value → Shared → Prop, Q' (.ref x1) s₁ → wpAny (model prog w) A c Q' E s₁) ∧
      PySem.W.Looks (model prog w) s₁.heap (isSubtype o1.cls (.type "BaseException")) true ∧ PySem.W.Looks (model prog w) s₁.heap (isSubtype oe.cls (.type "BaseException")) true ∧ PySem.W.Looks (model prog w) (causeAt s₁.heap a (.ref x1)) (typeOf oe.cls) (.type "type") ∧
      E (.ref a) { s₁ with heap := (causeAt s₁.heap a (.ref x1)).update a (Obj.mapFields (·.setIfInBounds 2 (.ref x1))) }) E s) :
    wpAny (model prog w) A (raiseStmt env (some x) (some c)) Q E s := by
  unfold raiseStmt
  dsimp only
  refine wpAny_bind (wpAny_mono h (fun v s₁ h₁ => ?_) fun _ _ x => x)
  obtain ⟨a, oe, vs, o1, v1, rfl, ha, hd, h1, hi, hne, hot, hx, hdx, hc, L0, L1, L3, hE⟩ := h₁
  obtain ⟨ha4, hd4⟩ := causeAt_at (c := .ref x1) ha hd
  have hd3 := Obj.data_mapFields hd (·.setIfInBounds 3 (Value.ref x1))
  have ha3 := Heap.get?_update_self (Obj.mapFields (·.setIfInBounds 3 (Value.ref x1))) ha (Obj.isFreed_of_fields hd3)
  have s3 : 3 < vs.size := by omega
  have s4 : 4 < (vs.setIfInBounds 3 (Value.ref x1)).size := by rw [set_size]; exact hi
  have s2 : 2 < ((vs.setIfInBounds 3 (Value.ref x1)).setIfInBounds 4 (Value.bool true)).size := by rw [set_size, set_size]; omega
  have h14 : ((vs.setIfInBounds 3 (Value.ref x1)).setIfInBounds 4 (Value.bool true))[1]? = some Value.none := set_other (by decide) (set_other (by decide) h1)
  have hcls4 : ((oe.mapFields (·.setIfInBounds 3 (Value.ref x1))).mapFields (·.setIfInBounds 4 (.bool true))).cls = oe.cls := by rw [Obj.cls_mapFields, Obj.cls_mapFields]
  have LT4 : PySem.W.Looks (model prog w) (causeAt s₁.heap a (.ref x1)) (typeOf (.ref a)) oe.cls := fun A Q E s k q => wpAny_typeOf_ref (k _ _ ha4) (by rw [hcls4]; exact q)
  have hot4 : HotAt A x1 (causeAt s₁.heap a (.ref x1)) := by
    obtain ⟨q1, o, vs', q2, q3, q4⟩ := hot
    exact ⟨q1, o, vs', by rw [causeAt_other (Ne.symm hne)]; exact q2, q3, q4⟩
  have rest : wpAny (model prog w) A (do
      let b ← isType (.ref a)
      if b = true then do
        let e ← holding [.ref a] (raisedFor (.ref a) (.ref a))
        setFlight e none
        raiseNew e
      else do
        let e ← raisedInstance (.ref a)
        setFlight e none
        raiseNew e : Sem Flow) Q E { s₁ with heap := causeAt s₁.heap a (.ref x1) } := by
    refine wpAny_bind (not_type (s := { s₁ with heap := causeAt s₁.heap a (.ref x1) }) ha4 hd4 ?_)
    simp only [Bool.false_eq_true, if_false]
    unfold raisedInstance
    refine wpAny_bind (wpAny_bind (LT4.here (wpAny_bind (L3.here ?_))))
    rw [if_pos (beq_self_eq_true _)]
    refine wpAny_pure ?_
    unfold setFlight
    refine wpAny_bind (wpAny_bind (wpAny_field ha4 hd4 h14 ?_))
    rw [if_neg (by decide)]
    refine wpAny_pure ?_
    exact raiseNew_hot hot4 hne ha4 hd4 s2 hE
  refine wpAny_bind (wpAny_holding (hc _ (wpAny_bind (wpAny_pure ?_))))
  dsimp only
  refine wpAny_bind (wpAny_holding (is_exc ha hd L1 ?_))
  have cn : ¬ ((Value.ref x1 == Value.none) = true) := by simp
  rw [if_neg cn]
  have both : wpAny (model prog w) A (setField (.ref a) 3 (.ref x1)) (fun _ s5 => wpAny (model prog w) A (setField (.ref a) 4 (.bool true)) (fun _ s6 => wpAny (model prog w) A (do
      let b ← isType (.ref a)
      if b = true then do
        let e ← holding [.ref a] (raisedFor (.ref a) (.ref a))
        setFlight e none
        raiseNew e
      else do
        let e ← raisedInstance (.ref a)
        setFlight e none
        raiseNew e : Sem Flow) Q E s6) E s5) E s₁ := wpAny_setField ha hd s3 (wpAny_setField ha3 hd3 s4 rest)
  first
  | exact wpAny_bind (wpAny_holding (is_exc hx hdx L0 (wpAny_bind (wpAny_mono both (fun _ _ q => wpAny_bind q) fun _ _ z => z))))
  | exact wpAny_bind (wpAny_holding (is_exc hx hdx L0 (wpAny_bind (wpAny_bind (wpAny_mono both (fun _ _ q => q) fun _ _ z => z)))))
  | exact wpAny_bind (wpAny_bind (wpAny_holding (is_exc hx hdx L0 (wpAny_bind (wpAny_mono both (fun _ _ q => q) fun _ _ z => z)))))
end
section
open Er PySem.HandSPX
/-- a made error of one argument, all its fields told -/
structure OwnF (h h' : Heap) (e C d : Addr) (f : Str) (v : Value) : Prop where
  keep : ∀ b o, h.get? b = some o → h'.get? b = some o
  new : h.objs.size ≤ e
  obj : ∃ t1, h'.get? e = some { cls := .ref C, dict := some d, data := .fields #[.ref t1, .none, .none, .none, .bool false, .none] }
  big : h.objs.size ≤ d
  ne : d ≠ e
  ns : h'.Ns1 d (fun y => if y = f then some v else none)
theorem made1F {prog : Program} {w : World} {A : Around} {R : Result → Shared → Prop} {s : Shared} {K : PySem.W.Frag} {mg mb : Str → Option Value} {C fI : Addr} {nm f : Str} {p1 p2 a b c d e a' b' c' d' : Pos} {me : Expr} {v : Value}
    (T : Cls1 prog K mg nm C fI (args1 f p1 p2) [supS me a b c d e, keepS f a' b' c' d'] (scope1 f)) (X : K.In s.heap) (hg : s.heap.Ns mainGlobals mg) (hb : s.heap.Ns builtinsNs mb) (hbb : ∀ z : Str, z ≠ "__name__" → mb z = bootBuiltins z)
    (hlim : s.heap.NoLimit) (hroom : A.depth + 1 < recursionLimit) (hM : Msg me f v (scope1 f)) (hcdp : (c.endLine == d.line) = true) (hF : Fld f) (noN : PySem.W.findIn K (.ref C) f = some none)
    (hq : ∀ h' tk x dx, OwnF s.heap h' x C dx f v → R (.ok (.ret (.ref x))) { s with heap := h', toks := tk }) : codeAny (model prog w) A (.call (.ref C) ⟨[v], []⟩) R s := by
  obtain ⟨n, q, N, bs, bm, sn, sub, ab, col, dd, k0, k1, k2, k3, k5, hC, hbm⟩ := T.cls
  obtain ⟨hp, g, dr, tk, os⟩ := s
  have k : ∀ b o, hp.get? b = some o → ((hp.push (PySem.W.kdv_tup [v])).push (excO C hp.objs.size)).get? b = some o := fun b o z => Heap.get?_push_of_some _ (Heap.get?_push_of_some _ z)
  have hget : ((hp.push (PySem.W.kdv_tup [v])).push (excO C hp.objs.size)).get? (hp.objs.size + 1) = some (excO C hp.objs.size) := by heap_get
  refine call_own PySem.F.excBase_ValueError (fun Y => refsVE_contains Y bm hbm) (X _ _ hC) (PySem.W.looks_findIn X T.iC) (fun self => PySem.W.bind_fn X self T.tC) (size1 v) ?_
  refine init1 (mb := mb) (s := ⟨(hp.push (PySem.W.kdv_tup [v])).push (excO C hp.objs.size), g, dr, tk, os⟩) T (X.keeps k) (hg.keeps k) (hb.keeps k) hbb (hlim.keeps k) hget (fresh_of X (Nat.le_succ _)) hroom hM hcdp hF noN fun h' tk' dx Z => ?_
  have old : ∀ b o, hp.get? b = some o → h'.get? b = some o := fun b o z => Z.keep b o (Nat.ne_of_lt (Nat.lt_succ_of_lt (Heap.lt_size z))) (k b o z)
  have z : hp.objs.size + 1 + 1 ≤ dx := by
    have q := Z.big
    rw [Heap.size_push, Heap.size_push] at q
    exact q
  exact ⟨rfl, hq h' tk' (hp.objs.size + 1) dx ⟨old, Nat.le_succ _, Z.obj, Nat.le_trans (Nat.le_trans (Nat.le_succ _) (Nat.le_succ _)) z, Z.ne, Z.ns⟩⟩
theorem pmk1H {X : Cx} {C fI : Addr} {nm f : Str} {me : Expr} {p1 p2 a b c d e a' b' c' d' : Pos} {x : Expr} {ta : TA} {p pos : Pos} {k : Nat} (T : Cls1 X.prog X.K X.mg nm C fI (args1 f p1 p2) [supS me a b c d e, keepS f a' b' c' d'] (scope1 f)) (hcdp : (c.endLine == d.line) = true) (hF : Fld f) (noN : PySem.W.findIn X.K (.ref C) f = some none) (hr : L2H.RoomH k X.A) (ha : PA X [x] ta) (hg : Gl X nm) (hdb : (nm == ("__debug__" : Str)) = false)
    (he : starEach (x :: []) X.env = (false, eval x X.env) :: starEach [] X.env := by rfl) (hpl : (backTo pos (starEach [] X.env)).any (·.1) = false := by rfl) :
    L2H.PMk5 X (.Call (.Name nm p) [x] [] pos) (tMk1 C f me ta) := by
  intro pins s σ H Q I h
  refine wpAny_Call_Name_kw (ld_glob I hg T.gC ?_ hdb)
  refine PySem.W.callWith_K (h₀ := X.base) I.ok.mod.kin T.kC (thn (ha.run pos pins s σ H _ I h) fun us s1 hh => ?_) he hpl
  obtain ⟨vs, H1, I1, r1, v, ev, hM, q1⟩ := hh
  subst ev
  refine ⟨I1.kIn, ?_⟩
  cases r1 with
  | cons rv rn =>
    rename_i v' us'
    cases rn
    show wpAny _ _ (call (.ref C) [v']) _ _ _
    have hlim := I1.nolimit
    obtain ⟨mb, hb1, hb2⟩ := I1.mod.blt
    have hgl := I1.mod.glob.keeps I1.bk
    have hbl := hb1.keeps I1.bk
    obtain ⟨hp, g, dr, tk, os⟩ := s1
    refine wpAny_call (made1F (mb := mb) T I1.kIn hgl hbl hb2 hlim (by have := hr.dp; omega) (hM v' rv) hcdp hF noN fun h' tk' e d M => ?_)
    obtain ⟨t1, hoe⟩ := M.obj
    have hns := M.ns
    obtain ⟨G', g1, g2⟩ := restrict h' fun b => decide (b ≠ e)
    have gk : ∀ b, b ≠ e → G'.get? b = h'.get? b := fun b hb => g1 b (decide_eq_true hb)
    have ge : G'.get? e = none := g2 e (by simp)
    have old : ∀ b o, hp.get? b = some o → G'.get? b = some o := fun b o q => (gk b (Nat.ne_of_lt (Nat.lt_of_lt_of_le (Heap.lt_size q) M.new))).trans (M.keep b o q)
    have ob : ObjOk X.prog X.w (upd H1 d (.xd [(f, v)])) G' d (.xd [(f, v)]) :=
      ⟨_, hns.at (fun o q => (gk d M.ne).trans q), fun g => relO_f1 rv f g⟩
    have J : Inv X pins σ (upd H1 d (.xd [(f, v)])) ⟨G', g, dr, tk', os⟩ := I1.laid (t' := tk') old M.big ob
    refine ⟨⟨e, _, _, ⟨G', g, dr, tk', os⟩, _, .ref C, some d, rfl, J, fun b o q => ?_, ge, hoe, ⟨rfl, rfl, fun vs' e' => ?_⟩, rfl, rfl, ?_, rfl, I1.bare, raises_own T.exC T.tyC, q1 d (I1.hok.fresh M.big)⟩, fun a2 o2 v2 ea2 hg2 hd2 => ?_⟩
    · by_cases hb : b = e
      · have q' : G'.get? b = some o := q
        rw [hb, ge] at q'
        cases q'
      · exact (gk b hb).symm.trans q
    · cases e'
      rfl
    · rw [upd_ne (Ne.symm M.ne)]
      exact I1.hok.fresh M.new
    · cases ea2
      have hg3 : h'.get? e = some o2 := hg2
      rw [hoe] at hg3
      cases hg3
      cases hd2
      show (4 : Nat) < 6
      decide
theorem ps_raiseHF {X : Cx} {W : WX} {e : Expr} {t : L2.St → Hp → XK → Prop} {n : Str} {i : Nat} {np pos : Pos} {a : Addr} {oe : Obj} {cls : Value} {d : Option Addr} (hz : L2N.Zn cls d oe) (hfld : ∃ vs, oe.data = .fields vs) (hh : X.A.handled = some (.ref a)) (hp : (a, oe) ∈ X.pn)
    (hi : X.N[i]? = some n) (hl : X.env.kindOf n = some .local) (hdb : (n == ("__debug__" : Str)) = false) (tk : L2.Takes X W) (he : L2H.PMk5 X e t) :
    PS X (.Raise (some e) (some (.Name n np)) pos) (fun _ σ H => σ[i]? = some (some (.ref a)) ∧ PySem.W.subIn X.K cls (.type "BaseException") = some true ∧ t σ H fun cls d H' => W cls d σ H') := by
  refine ⟨fun pins s σ H D I h => ?_⟩
  obtain ⟨hσ, hsub, h⟩ := h
  obtain ⟨ve, hve⟩ := hfld
  show wpAny _ _ (do standAt pos; raiseStmt X.env (some (do let v ← eval e X.env; standAt pos; pure v)) (some (do let v ← eval (.Name n np) X.env; standAt pos; pure v))) _ _ _
  refine wpAny_bind (wpAny_standAt (raise_made_hotF (x1 := a) (wpAny_bind (wpAny_mono (he pins s σ H _ I h) (fun u s1 hu => wpAny_bind (wpAny_standAt (wpAny_pure ?_))) fun _ _ x => x))))
  obtain ⟨⟨a2, o2, vs, sI, H', cls2, d2, rfl, J, k, hne, ha, hz2, hd, h1, na, os, ag, r, q⟩, h5⟩ := hu
  have hi4 : 4 < vs.size := h5 a2 o2 vs rfl ha hd
  have P1 := (J.pin (a, oe) (List.mem_append_left _ hp)).1
  have nap : a ≠ a2 := fun z => by
    rw [← z] at hne
    rw [hne] at P1
    cases P1
  have k4 : ∀ b u, sI.heap.get? b = some u → (causeAt s1.heap a2 (.ref a)).get? b = some u := fun b u z => by
    have nab : a2 ≠ b := fun y => by
      rw [← y, hne] at z
      cases z
    rw [causeAt_other nab]
    exact k b u z
  obtain ⟨r1, _⟩ := r (model X.prog X.w) s1.heap (J.kIn.keeps k)
  obtain ⟨_, r2⟩ := r (model X.prog X.w) (causeAt s1.heap a2 (.ref a)) (J.kIn.keeps k4)
  obtain ⟨ha4, hd4⟩ := causeAt_at (c := .ref a) ha hd
  have h12 : (((vs.setIfInBounds 3 (Value.ref a)).setIfInBounds 4 (Value.bool true)).setIfInBounds 2 (Value.ref a))[1]? = some Value.none := set_other (by decide) (set_other (by decide) (set_other (by decide) h1))
  obtain ⟨m, hn, look⟩ := J.loc
  obtain ⟨u, ru, qu⟩ := look i n (.ref a) hi hσ (.inl hl)
  have eu : u = .ref a := ru
  subst eu
  have hmn : m n = some (.ref a) := by
    rcases qu with ⟨_, e1⟩ | ⟨k1 | k1, _⟩
    · exact e1
    · rw [hl] at k1
      cases k1
    · rw [hl] at k1
      cases k1
  have hn1 : s1.heap.Ns X.env.locals m := hn.keeps k
  refine ⟨a2, o2, vs, oe, ve, rfl, ha, hd, h1, hi4, nap, ⟨hh, oe, ve, k _ _ P1, hve, hz.2.2 ve hve⟩, k _ _ P1, hve, fun Q' q' => wpAny_bind (Er.ldL hn1 hmn J.ok.kind hl hdb (wpAny_bind (wpAny_standAt (wpAny_pure q')))), ?_, ?_, ?_, tk _ _ (XE.new J (fun b u z => ?_) hne (Heap.get?_update_self _ ha4 (Obj.isFreed_of_fields (Obj.data_mapFields hd4 _)))
    ⟨by rw [Obj.cls_mapFields, Obj.cls_mapFields, Obj.cls_mapFields]; exact hz2.1, by rw [HandSPX.dict_mapFields, HandSPX.dict_mapFields, HandSPX.dict_mapFields]; exact hz2.2.1⟩ (Obj.data_mapFields hd4 _) h12 na os ag q)⟩
  · rw [hz.1]
    exact PySem.W.looks_subIn (J.kIn.keeps k) hsub
  · rw [hz2.1]
    exact r1
  · rw [hz2.1]
    exact r2
  · have nab : a2 ≠ b := fun y => by
      rw [← y, hne] at z
      cases z
    show ((causeAt s1.heap a2 (.ref a)).update a2 (Obj.mapFields (·.setIfInBounds 2 (.ref a)))).get? b = some u
    rw [Heap.get?_update_other _ _ nab]
    exact k4 b u z
end
/-! ### defs that are called while any exception is handled, whatever its context: they raise nothing, not even within -/
section
open L2H
structure FnC (P : Program) (w : World) (K : PySem.W.Frag) (mg : Str → Option Value) (base : Heap) (CX : CXT) (k : Nat) (f : Addr) (fd : FuncData) (ps : List Str) (sp : Sp) : Prop where
  len : ∀ vs H Q E, sp vs H Q E → vs.length = ps.length
  run : ∀ (A : Around) (outer : List Env) (s : Shared) (H : Hp) (args : Args) (us : List Value) (vs : List V) (Q : VK) (E : XK) (p : Addr × Obj), RoomH k A → PinOk outer H s p → Env0 P w K mg base A outer s H → BindsTo s fd args (ps.zip us) → Vals vs us → sp vs H Q E →
    codeAny (model P w) A (.call (.ref f) args) (CR CX outer P w H s Q E) s
theorem fn_ofC {CX : CXT} {P : Program} {w : World} {K : PySem.W.Frag} {mg : Str → Option Value} {base : Heap} {k : Nat} {f : Addr} {name qual : Str} {params : Arguments} {body : List Stmt} {scope : Scope} {dV kV doc pm cdv ct oc : Value} {an od : Option Addr}
    {osl : Array (Option Value)} {N ps : List Str} {sp : Sp} (lk : K.lookup f = some ⟨oc, od, .func (PySem.W.fnOf name qual params body scope dV kV doc pm an cdv ct), osl⟩) (hcd : PySem.W.codeIn K cdv qual = true) (S : FnScope N ps scope)
    (len : ∀ vs H Q E, sp vs H Q E → vs.length = ps.length)
    (hbody : ∀ (A : Around) (outer : List Env) (s : Shared) (H : Hp) (vs : List V) (Q : VK) (E : XK) (p : Addr × Obj), RoomH k (A.deeper (envOfC qual scope s.heap.objs.size f cdv)) → sp vs H Q E →
      ∃ t, PSs (cxH CX P w K mg base N qual scope f cdv A outer s H E p) body t ∧ t { nx := fun _ H' => Q .non H', rt := Q } (L2.start N vs) H) :
    FnC P w K mg base CX (k + 1) f (PySem.W.fnOf name qual params body scope dV kV doc pm an cdv ct) ps sp := by
  refine ⟨len, fun A outer s H args us vs Q E p hr hpin e0 hb r hsp => ?_⟩
  have hl := len _ _ _ _ hsp
  have KX : K.In s.heap := e0.mod.kin.keeps fun b o e => (e0.bs b o e).1
  have lim : s.heap.NoLimit := e0.mod.nolimit.keeps fun b o e => (e0.bs b o e).1
  have hkind : ∀ y ∈ ps.zip us, scope.names.lookup y.1 = some .local ∨ (scope.names.lookup y.1 = some .cell ∧ ((cellsFrom (s.heap.objs.size + 1) scope.names []).lookup y.1).isSome = true) := fun ⟨n, v⟩ hy => by
    rcases S.par n (List.of_mem_zip hy).1 with q | q
    · exact .inl q
    · exact .inr ⟨q, PySem.W.cellsFrom_some _ _ _ (.inl q)⟩
  refine codeAny_call_function hr.depth (KX _ _ lk) rfl S.co S.gen rfl (PySem.W.codeRec_of KX hcd) (hb _ _ _ _ ?_)
  refine wpAny_newFunctionEnv_cells S.kind hkind fun env he s1 x => ?_
  subst he
  refine ⟨lim.keeps x.toInCall.keep, codeAny_func ?_⟩
  obtain ⟨t, ht, hq⟩ := hbody A outer s H vs Q E p (hr.deeper _) hsp
  have I : Inv (cxH CX P w K mg base N qual scope f cdv A outer s H E p) [] (L2.start N vs) H s1 := inv_startH S hpin e0 hl r x
  refine wpAny_mono (ht.run [] s1 (L2.start N vs) H _ I hq) (fun fl s' hs => ?_) fun e s' hs => hs
  match fl, hs with
  | .ret u, ⟨v, σ', H', J, rv, q⟩ => exact ⟨v, H', J.os, J.bare, J.base, J.hok, rv, q⟩
  | .next, ⟨σ', H', J, q⟩ => exact ⟨V.non, H', J.os, J.bare, J.base, J.hok, rfl, q⟩
  | .brk, ⟨_, _, _, q⟩ => exact False.elim q
  | .cont, ⟨_, _, _, q⟩ => exact False.elim q
theorem _root_.L2.Fun.okC {P : Program} {w : World} {K : PySem.W.Frag} {mg : Str → Option Value} {base : Heap} {CX : CXT} {x qual : Str} {st : Stmt} {f : Addr} {fd : FuncData} {N ps : List Str} {k : Nat} {sp : Sp} (F : Fun K x qual st f fd) (S : FnScope N ps (defScope st)) (len : ∀ vs H Q E, sp vs H Q E → vs.length = ps.length)
    (hbody : ∀ (cdv : Value) (A : Around) (outer : List Env) (s : Shared) (H : Hp) (vs : List V) (Q : VK) (E : XK) (p : Addr × Obj), RoomH k (A.deeper (envOfC qual (defScope st) s.heap.objs.size f cdv)) → sp vs H Q E →
      ∃ t, PSs (cxH CX P w K mg base N qual (defScope st) f cdv A outer s H E p) (defBody st) t ∧ t { nx := fun _ H' => Q .non H', rt := Q } (L2.start N vs) H) : FnC P w K mg base CX (k + 1) f fd ps sp := by
  obtain ⟨oc, od, kV, doc, pm, an, cdv, ct, osl, rfl, lk, hcd⟩ := F.ex
  exact fn_ofC lk hcd S len fun A outer s H vs Q E p hr hsp => hbody cdv A outer s H vs Q E p hr hsp
theorem pe_callC {X : Cx} {CX : CXT} {k : Nat} {f : Addr} {fd : FuncData} {ps : List Str} {sp : Sp} {E : L2.St → XK} {x : Str} {q pos : Pos} {e : Expr} {es : List Expr} {t : TA} {p : Addr × Obj} (F : FnC X.prog X.w X.K X.mg X.base CX k f fd ps sp) (hr : RoomH k X.A) (hp : p ∈ X.pn) (hg : Gl X x) (hm : X.mg x = some (.ref f)) (hk : PySem.W.keepIn X.K (.ref f) = true) (hb : Binds X.K fd ps []) (hx : ∀ σ, PassesAt CX X σ (E σ))
    (ha : PA X (e :: es) t) (hdb : (x == ("__debug__" : Str)) = false := by decide) (he : starEach (e :: es) X.env = (false, eval e X.env) :: starEach es X.env := by rfl) (hpl : (backTo pos (starEach es X.env)).any (·.1) = false := by rfl) :
    PE X (.Call (.Name x q) (e :: es) [] pos) (tCallS sp E t) := by
  refine ⟨fun pins s σ H Q I h => ?_⟩
  refine wpAny_Call_Name_kw (ld_glob I hg hm ?_ hdb)
  refine PySem.W.callWith_K (h₀ := X.base) I.ok.mod.kin hk (thn (ha.run pos pins s σ H _ I h) fun us s1 ⟨vs, H1, I1, r, hs⟩ => ⟨I1.kIn, ?_⟩) he hpl
  have hl : us.length = ps.length := by rw [← r.length]; exact F.len _ _ _ _ hs
  have b := hb s1 us I1.kIn (by rw [List.append_nil]; exact hl)
  rw [List.append_nil] at b
  have P1 := I1.pin p (List.mem_append_left _ hp)
  have hpin : PinOk X.stack H1 s1 p := ⟨P1.1, P1.2.1, fun hm => (List.mem_cons.mp (I1.stkSub p.1 hm)).elim P1.2.2.1 P1.2.2.2.1, P1.2.2.2.2⟩
  refine wpAny_call (codeAny_mono (F.run X.A X.stack s1 H1 ⟨us, []⟩ us vs Q (E σ) p hr hpin I1.env0 b r hs) fun r s' hq => ?_)
  cases r with
  | error e => exact hx σ pins H1 s1 e s' I1 hq
  | ok fl =>
    cases fl with
    | ret u => exact I1.after hq
    | next => exact False.elim hq
    | brk => exact False.elim hq
    | cont => exact False.elim hq
end
/-! ### C(*xs) in a try; defs that let out errors with a context -/
theorem pe_makeSS {X : Cx} {CX : CXT} {k : Nat} {f C : Addr} {sp : Sp} {E : L2.St → XK} {x : Str} {e : Expr} {te : TE} {p sp_ pos : Pos} (M : Mk X.K C f) (F : FnR X.prog X.w X.K X.mg X.base CX k f sp) (hr : Room (k + 1) X.A) (hg : Gl X x) (hm : X.mg x = some (.ref C)) (hx : ∀ σ, PassesAt CX X σ (E σ)) (he : PE X e te)
    (hd : (x == ("__debug__" : Str)) = false := by decide) (hst : starEach [.Starred e sp_] X.env = [(true, eval e X.env)] := by rfl) : PE X (.Call (.Name x p) [.Starred e sp_] [] pos) (tMakeSS X.K C sp E te) := by
  refine ⟨fun pins s σ H Q I h => ?_⟩
  refine wpAny_Call_Name_kw (ld_glob I hg hm ?_ hd)
  refine PySem.W.callWith_S (h₀ := X.base) I.ok.mod.kin M.kp (thn (he.run pins s σ H _ I h) fun v s1 ⟨y, H1, I1, ry, a, xs, ey, hxs, q⟩ => ?_) hst
  subst ey
  obtain rfl : v = Value.ref a := ry
  exact StX.star_any I1 hxs fun us s2 I2 rv => ⟨I2.kIn, run_makeRAt M F hr (hx σ) I2 rv q⟩
theorem _root_.L2.Fun.okL {P : Program} {w : World} {K : PySem.W.Frag} {mg : Str → Option Value} {base : Heap} {x qual : Str} {st : Stmt} {f : Addr} {fd : FuncData} {N ps : List Str} {k : Nat} {sp : Sp} (F : Fun K x qual st f fd) (S : FnScope N ps (defScope st)) (len : ∀ vs H Q E, sp vs H Q E → vs.length = ps.length)
    (hbody : ∀ (cdv : Value) (A : Around) (outer : List Env) (s : Shared) (H : Hp) (vs : List V) (Q : VK) (E : XK), Room k (A.deeper (envOfC qual (defScope st) s.heap.objs.size f cdv)) → sp vs H Q E →
      ∃ t, PSs (cxOf (L2.CX P w) P w K mg base N qual (defScope st) f cdv A outer s H E) (defBody st) t ∧ t { nx := fun _ H' => Q .non H', rt := Q } (start N vs) H) : FnOk P w K mg base (L2.CX P w) (k + 1) f fd ps sp := by
  obtain ⟨oc, od, kV, doc, pm, an, cdv, ct, osl, rfl, lk, hcd⟩ := F.ex
  exact fn_of lk hcd S len fun A outer s H vs Q E hr hsp => hbody cdv A outer s H vs Q E hr hsp
theorem pmk_up {X : Cx} {e : Expr} {t : L2.St → Hp → XK → Prop} (h : L2N.PMk X e t) : L2.PMk X e t := fun pins s σ H Q I q => thn (h pins s σ H Q I q) fun _ _ ⟨a, oe, vs, sI, H', cls, d, e1, J, k, hne, ha, hz, r⟩ => ⟨a, oe, vs, sI, H', cls, d, e1, J, k, hne, ha, hz.zc, r⟩
section
open Er
/-- f'c{f}e' of an int -/
theorem msg_cic {f : Str} {i : Int} {t : Tok} {c e : Str} {p q p1 p2 p3 : Pos} {k k2 : Nat} (hF : Fld f) (hc : c.length ≤ 1000) (hce : e.length ≤ 1000) (hz : i.natAbs.log2 < 1920) (hs : (toString i : Str).length ≤ 1000) :
    Msg (.JoinedStr [.Constant (.str c) k p1, .FormattedValue (.Name f p) (-1) none q, .Constant (.str e) k2 p3] p2) f (.int i t) (scope1 f) where
  call := fun env a b c' d e' => ⟨_, call_eq e' rfl⟩
  star := fun env => rfl
  swap := fun _ _ _ _ _ _ => rfl
  text := fun prog w A E env s m Q he hn hv h => by
    have z0 : (Str.empty ++ c).length ≤ 0 + 1000 := app_le (Nat.le_refl _) hc
    have z1 : (Str.empty ++ c ++ (toString i : Str)).length ≤ 0 + 1000 + 1000 := app_le z0 hs
    have z2 : (Str.empty ++ c ++ (toString i : Str) ++ e).length ≤ 0 + 1000 + 1000 + 1000 := app_le z1 hce
    have b0 : (3000 : Nat) ≤ sizeLine := by rw [sizeLine_eq]; decide
    refine wpAny_JoinedStr ?_
    refine wpAny_Constant_str ⟨c, _, rfl, Nat.le_trans z0 (Nat.le_trans (by decide) b0), ?_⟩
    refine part_i (sc := scope1 f) hF.kf rfl hF.dbg he (s := { s with toks := s.toks + 1 }) hn hv hz fun tk n => ⟨_, _, rfl, Nat.le_trans z1 (Nat.le_trans (by decide) b0), ?_⟩
    refine wpAny_Constant_str ⟨e, _, rfl, Nat.le_trans z2 b0, ?_⟩
    exact ⟨Nat.le_trans z2 b0, h _ _ _⟩
end
end L2R
/-! What a program's top has left, read by a Hook: facts of K as Bools, each def's object as data. -/
namespace Hk
open PySem PySem.Spec PyProof.Rows L2
/-- a def's object, as far as it can be told by data -/
abbrev FV : Type := Option (Str × Str × Arguments × FuncBody × Scope × Addr × List Str × Addr)
def fv (K : PySem.W.Frag) (a : Addr) : FV := match K.lookup a with
  | some ⟨_, _, .func fd, _⟩ => some (fd.name, fd.qualname, fd.params, fd.body, fd.scope, fd.globals, fd.closure.map (·.1), fd.builtins)
  | _ => none
def isNo : Value → Bool
  | .none => true
  | _ => false
theorem isNo_is {v : Value} (h : isNo v = true) : v = .none := by cases v <;> first | rfl | cases h
def fb (K : PySem.W.Frag) (a : Addr) (q : Str) : Bool := match K.lookup a with
  | some ⟨_, _, .func fd, _⟩ => PySem.W.codeIn K fd.code q && isNo fd.defaults
  | _ => false
theorem fb_get {K : PySem.W.Frag} {a : Addr} {x q : Str} {ps : Arguments} {body : List Stmt} {sc : Scope} (e : fv K a = some (x, q, ps, .stmts body, sc, mainGlobals, [], builtinsNs)) (c : fb K a q = true) :
    ∃ oc od osl kV doc pm an cdv ct, K.lookup a = some ⟨oc, od, .func (PySem.W.fnOf x q ps body sc .none kV doc pm an cdv ct), osl⟩ ∧ PySem.W.codeIn K cdv q = true := by
  unfold fv at e
  unfold fb at c
  cases lk : K.lookup a with
  | none => rw [lk] at e; cases e
  | some o =>
    obtain ⟨oc, od, dt, osl⟩ := o
    rw [lk] at e c
    cases dt with
    | func fd =>
      obtain ⟨n1, n2, n3, n4, n5, n6, n7, n8, n9, n10, n11, n12, n13, n14, n15⟩ := fd
      have e2 : (some (n1, n2, n3, n4, n5, n6, n7.map (·.1), n15) : FV) = some (x, q, ps, .stmts body, sc, mainGlobals, [], builtinsNs) := e
      simp only [Option.some.injEq, Prod.mk.injEq] at e2
      obtain ⟨h1, h2, h3, h4, h5, h6, h7, h8⟩ := e2
      have h7 := List.map_eq_nil_iff.mp h7
      subst h1 h2 h3 h4 h5 h6 h7 h8
      have c2 : (PySem.W.codeIn K n13 n2 && isNo n8) = true := c
      rw [Bool.and_eq_true] at c2
      have d0 := isNo_is c2.2
      subst d0
      exact ⟨oc, od, osl, n9, n10, n11, n12, n13, n14, rfl, c2.1⟩
    | _ => cases e
/-- a class's constant -/
def ib (K : PySem.W.Frag) (C : Addr) (m : Str) (i : Int) : Bool := match PySem.W.findCls K (.ref C) (.type "type") m with
  | some (.val (.int j _)) => decide (j = i)
  | _ => false
theorem ib_get {K : PySem.W.Frag} {C : Addr} {m : Str} {i : Int} (c : ib K C m i = true) : ∃ t, PySem.W.findCls K (.ref C) (.type "type") m = some (.val (.int i t)) := by
  unfold ib at c
  split at c
  · rename_i j t e
    exact ⟨t, by rw [e, of_decide_eq_true c]⟩
  · cases c
/-- a name of the module that is a text, a number -/
def sb (K : PySem.W.Frag) (x z : Str) : Bool := match PySem.W.nsIn K mainGlobals x with
  | some (some (.str y _)) => decide (y = z)
  | _ => false
theorem sb_get {K : PySem.W.Frag} {x z : Str} (c : sb K x z = true) : ∃ t, PySem.W.nsIn K mainGlobals x = some (some (.str z t)) := by
  unfold sb at c
  split at c
  · rename_i y t e
    exact ⟨t, by rw [e, of_decide_eq_true c]⟩
  · cases c
def nb (K : PySem.W.Frag) (x : Str) (i : Int) : Bool := match PySem.W.nsIn K mainGlobals x with
  | some (some (.int j _)) => decide (j = i)
  | _ => false
theorem nb_get {K : PySem.W.Frag} {x : Str} {i : Int} (c : nb K x i = true) : ∃ t, PySem.W.nsIn K mainGlobals x = some (some (.int i t)) := by
  unfold nb at c
  split at c
  · rename_i j t e
    exact ⟨t, by rw [e, of_decide_eq_true c]⟩
  · cases c
/-- an own error class -/
def eb (K : PySem.W.Frag) (C : Addr) : Bool := match K.lookup C with
  | some ⟨.type t, _, .cls cd, sl⟩ => (match cd.mro, sl.toList with
    | .ref D :: bm, [_, _, _, _, some (.builtin n), _] => decide (t = "type") && (decide (D = C) && (decide (n = "ValueError.__new__") && (!cd.hasDel && (cd.hasDict && PySem.HandSPX.refsVE bm))))
    | _, _ => false)
  | _ => false
theorem eb_get {K : PySem.W.Frag} {C : Addr} (c : eb K C = true) : ∃ (n q : Str) (N : Addr) (bs bm : List Value) (sn : List Str) (sub : List Value) (ab : Bool) (col : Option Bool) (dd : Option Addr) (w0 w1 w2 w3 w5 : Option Value),
    K.lookup C = some (excClassObj n q C N bs bm true sn sub ab col dd w0 w1 w2 w3 w5 "ValueError.__new__") ∧ PySem.HandSPX.refsVE bm = true := by
  unfold eb at c
  split at c
  · rename_i t dd cd sl lk
    split at c
    · rename_i D bm k0 k1 k2 k3 n k5 em es
      simp only [Bool.and_eq_true, decide_eq_true_eq, Bool.not_eq_true'] at c
      obtain ⟨h1, h2, h3, h4, h5, h6⟩ := c
      obtain ⟨m1, m2, m3, m4, m5, m6, m7, m8, m9, m10, m11⟩ := cd
      dsimp only at em h4 h5
      subst h1 h2 h3 h4 h5 em
      have e2 : sl = #[k0, k1, k2, k3, some (.builtin "ValueError.__new__"), k5] := by
        rw [← es]
      subst e2
      exact ⟨_, _, _, _, _, _, _, _, _, _, _, _, _, _, _, lk, h6⟩
    · cases c
  · cases c
/-- its __init__ -/
def eib (K : PySem.W.Frag) (a C : Addr) (q file : Str) : Bool := match K.lookup a with
  | some ⟨_, _, .func fd, _⟩ => (match fd.code, fd.closure with
    | .ref d, [(x, cc)] => PySem.W.codeIn K (.ref d) q && (isNo fd.defaults && (isNo fd.kwdefaults && ((match K.lookup d with
      | some ⟨_, _, .fields vs, _⟩ => (match (vs[2]? : Option Value) with
        | some (.str f _) => file == f
        | _ => false)
      | _ => false) && (match K.lookup cc with
      | some ⟨_, _, .cell (some (.ref D)), _⟩ => decide (D = C)
      | _ => false))))
    | _, _ => false)
  | _ => false
theorem eib_get {K : PySem.W.Frag} {a C : Addr} {x q file : Str} {ps : Arguments} {body : List Stmt} {sc : Scope} (e : fv K a = some (x, q, ps, FuncBody.stmts body, sc, mainGlobals, [Str.ofString "__class__"], builtinsNs)) (c : eib K a C q file = true) :
    ∃ oc od doc pm an cda ct cc osl, K.lookup a = some ⟨oc, od, .func (PySem.W.ksFn x q ps body sc .none .none doc pm an (.ref cda) ct cc), osl⟩ ∧ PySem.W.codeIn K (.ref cda) q = true ∧
      ∃ ccl cdd vs ccs f tf, K.lookup cda = some ⟨ccl, cdd, .fields vs, ccs⟩ ∧ vs[2]? = some (.str f tf) ∧ (file == f) = true ∧ ∃ cl cld csl, K.lookup cc = some ⟨cl, cld, .cell (some (.ref C)), csl⟩ := by
  unfold fv at e
  unfold eib at c
  cases lk : K.lookup a with
  | none => rw [lk] at e; cases e
  | some o =>
    obtain ⟨oc, od, dt, osl⟩ := o
    rw [lk] at e c
    cases dt with
    | func fd =>
      obtain ⟨n1, n2, n3, n4, n5, n6, n7, n8, n9, n10, n11, n12, n13, n14, n15⟩ := fd
      have e2 : (some (n1, n2, n3, n4, n5, n6, n7.map (·.1), n15) : FV) = some (x, q, ps, FuncBody.stmts body, sc, mainGlobals, [Str.ofString "__class__"], builtinsNs) := e
      simp only [Option.some.injEq, Prod.mk.injEq] at e2
      obtain ⟨h1, h2, h3, h4, h5, h6, h7, h8⟩ := e2
      dsimp only at c
      cases n7 with
      | nil => cases h7
      | cons y r =>
        cases r with
        | cons _ _ => exact absurd (congrArg List.length h7) (by simp)
        | nil =>
          obtain ⟨y1, cc⟩ := y
          obtain rfl : y1 = Str.ofString "__class__" := by
            have z : [y1] = [Str.ofString "__class__"] := h7
            injection z
          cases n13 with
          | ref d =>
            dsimp only at c
            simp only [Bool.and_eq_true] at c
            obtain ⟨c1, c2, c3, c4, c5⟩ := c
            have d8 := isNo_is c2
            have d9 := isNo_is c3
            subst h1 h2 h3 h4 h5 h6 h8 d8 d9
            split at c4
            · rename_i ccl cdd vs ccs lk2
              split at c4
              · rename_i f tf ev
                split at c5
                · rename_i cl cld D csl lk3
                  obtain rfl : D = C := of_decide_eq_true c5
                  exact ⟨oc, od, n10, n11, n12, d, n14, cc, osl, rfl, c1, ccl, cdd, vs, ccs, f, tf, lk2, ev, c4, cl, cld, csl, lk3⟩
                · cases c5
              · cases c4
            · cases c4
          | _ => cases c
    | _ => cases e
/-! ### the Hook -/
/-- what an object names that a fact may ask for: no code object's fields, no cell's content -/
def nx (g : Addr → Option Obj) (a : Addr) : List Addr := match g a with
  | some ⟨c, _, dt, _⟩ => (match dt with
    | .dict es _ => es.toList.flatMap fun e => He.refV e.val
    | .func fd => He.refV fd.code ++ fd.closure.map (·.2)
    | .cls cd => [cd.ns]
    | .fields vs => (match c with
      | .type t => if t = "property" then vs.toList.flatMap He.refV else if t = "classmethod" then vs.toList.flatMap He.refV else if t = "staticmethod" then vs.toList.flatMap He.refV else []
      | _ => [])
    | _ => [])
  | none => []
def nxs (g : Addr → Option Obj) (as : List Addr) : Nat → List Addr
  | 0 => as
  | n + 1 => as ++ nxs g (as.flatMap (nx g)) n
def frag (n : Nat) (g : Addr → Option Obj) : PySem.W.Frag := He.frG g (cStatics :: nxs g [mainGlobals] n)
abbrev Al : Type := Bool × List FV
def ob (n : Nat) (ex : PySem.W.Frag → Bool) (ats : PySem.W.Frag → List Addr) (g : Addr → Option Obj) : Al := (ex (frag n g), (ats (frag n g)).map (fv (frag n g)))
structure Says (ex : PySem.W.Frag → Bool) (ats : PySem.W.Frag → List Addr) (vals : List FV) (K : PySem.W.Frag) : Prop where
  ex : ex K = true
  fn : (ats K).map (fv K) = vals
def hook (n : Nat) (ex : PySem.W.Frag → Bool) (ats : PySem.W.Frag → List Addr) (vals : List FV) : PySem.W.Hook where
  α := Al
  obs := fun s => ob n ex ats s.heap.get?
  val := fun _ => (true, vals)
  says := fun _ h => ∃ K : PySem.W.Frag, K.In h ∧ Says ex ats vals K
  of := fun _ _ e => ⟨_, He.frG_in, ⟨congrArg (fun z : Al => z.1) e, congrArg (fun z : Al => z.2) e⟩⟩
  keeps := fun _ _ _ ⟨K, hK, c⟩ k => ⟨K, PySem.W.Frag.In.keeps hK k, c⟩
theorem ob_eq {n : Nat} {ex : PySem.W.Frag → Bool} {ats : PySem.W.Frag → List Addr} {vals : List FV} (s : PySem.W.SharedT) : ob n ex ats (HandSHeadRun.getT s) = (hook n ex ats vals).obs s.abs := by
  have e : HandSHeadRun.getT s = s.abs.heap.get? := funext fun a => HandSHeadRun.getT_eq s a
  rw [e] <;> rfl
theorem Says.at_ {ex : PySem.W.Frag → Bool} {ats : PySem.W.Frag → List Addr} {vals : List FV} {K : PySem.W.Frag} (c : Says ex ats vals K) (i : Nat) {a : Addr} {v : FV} (h1 : (ats K)[i]? = some a) (h2 : vals[i]? = some v) : fv K a = v := by
  have e : ((ats K).map (fv K))[i]? = vals[i]? := by rw [c.fn]
  rw [List.getElem?_map, h1, h2] at e
  exact Option.some.inj e
end Hk
namespace Hk19
open PySem PySem.Spec PyProof.Rows L2 Er
def topS (i : Nat) : Stmt := PySem.Challenge.pw_renamedhorn_k19_clause_texts_read.main.body.getD i (.Pass ⟨0, 0, 0, 0⟩)
abbrev s_is_name : Stmt := (topS 11)
abbrev N_is_name : List Str := ["text", "sign"]
theorem sc_is_name : FnScope N_is_name ["text"] (defScope s_is_name) := ⟨rfl, rfl, rfl, by decide +kernel, rfl, by decide +kernel, by decide +kernel⟩
abbrev s_is_literal : Stmt := (topS 12)
abbrev N_is_literal : List Str := ["text"]
theorem sc_is_literal : FnScope N_is_literal ["text"] (defScope s_is_literal) := ⟨rfl, rfl, rfl, by decide +kernel, rfl, by decide +kernel, by decide +kernel⟩
abbrev s_check_literal : Stmt := (topS 13)
abbrev N_check_literal : List Str := ["text"]
theorem sc_check_literal : FnScope N_check_literal ["text"] (defScope s_check_literal) := ⟨rfl, rfl, rfl, by decide +kernel, rfl, by decide +kernel, by decide +kernel⟩
abbrev s_name_of : Stmt := (topS 14)
abbrev N_name_of : List Str := ["literal"]
theorem sc_name_of : FnScope N_name_of ["literal"] (defScope s_name_of) := ⟨rfl, rfl, rfl, by decide +kernel, rfl, by decide +kernel, by decide +kernel⟩
abbrev s_is_positive : Stmt := (topS 15)
abbrev N_is_positive : List Str := ["literal"]
theorem sc_is_positive : FnScope N_is_positive ["literal"] (defScope s_is_positive) := ⟨rfl, rfl, rfl, by decide +kernel, rfl, by decide +kernel, by decide +kernel⟩
abbrev s_negated : Stmt := (topS 16)
abbrev N_negated : List Str := ["literal"]
theorem sc_negated : FnScope N_negated ["literal"] (defScope s_negated) := ⟨rfl, rfl, rfl, by decide +kernel, rfl, by decide +kernel, by decide +kernel⟩
abbrev s_both_signs : Stmt := (topS 17)
abbrev N_both_signs : List Str := ["names", "name", "literal"]
theorem sc_both_signs : FnScope N_both_signs ["names"] (defScope s_both_signs) := ⟨rfl, rfl, rfl, by decide +kernel, rfl, by decide +kernel, by decide +kernel⟩
abbrev s_in_order : Stmt := (topS 18)
abbrev N_in_order : List Str := ["literals", "names", "literal"]
theorem sc_in_order : FnScope N_in_order ["literals"] (defScope s_in_order) := ⟨rfl, rfl, rfl, by decide +kernel, rfl, by decide +kernel, by decide +kernel⟩
abbrev s_check_signs : Stmt := (topS 19)
abbrev N_check_signs : List Str := ["ordered", "literal"]
theorem sc_check_signs : FnScope N_check_signs ["ordered"] (defScope s_check_signs) := ⟨rfl, rfl, rfl, by decide +kernel, rfl, by decide +kernel, by decide +kernel⟩
abbrev s_Clause_init : Stmt := (inClass (topS 21) 1)
abbrev N_Clause_init : List Str := ["self", "literals", "ordered"]
theorem sc_Clause_init : FnScope N_Clause_init ["self", "literals"] (defScope s_Clause_init) := ⟨rfl, rfl, rfl, by decide +kernel, rfl, by decide +kernel, by decide +kernel⟩
abbrev s_Clause_eq : Stmt := (inClass (topS 21) 7)
abbrev N_Clause_eq : List Str := ["self", "other"]
theorem sc_Clause_eq : FnScope N_Clause_eq ["self", "other"] (defScope s_Clause_eq) := ⟨rfl, rfl, rfl, by decide +kernel, rfl, by decide +kernel, by decide +kernel⟩
abbrev s_Clause_str : Stmt := (inClass (topS 21) 13)
abbrev N_Clause_str : List Str := ["self"]
theorem sc_Clause_str : FnScope N_Clause_str ["self"] (defScope s_Clause_str) := ⟨rfl, rfl, rfl, by decide +kernel, rfl, by decide +kernel, by decide +kernel⟩
abbrev s__clause_in : Stmt := (topS 23)
abbrev N__clause_in : List Str := ["text", "line", "parts", "error", "clause"]
theorem sc__clause_in : FnScope N__clause_in ["text", "line"] (defScope s__clause_in) := ⟨rfl, rfl, rfl, by decide +kernel, rfl, by decide +kernel, by decide +kernel⟩
abbrev s_read_clause : Stmt := (topS 24)
abbrev N_read_clause : List Str := ["text"]
theorem sc_read_clause : FnScope N_read_clause ["text"] (defScope s_read_clause) := ⟨rfl, rfl, rfl, by decide +kernel, rfl, by decide +kernel, by decide +kernel⟩
abbrev s__law_source : Stmt := (topS 26)
abbrev N__law_source : List Str := ["_law_script"]
theorem sc__law_source : FnScope N__law_source ["_law_script"] (defScope s__law_source) := ⟨rfl, rfl, rfl, by decide +kernel, rfl, by decide +kernel, by decide +kernel⟩
abbrev s__law_take : Stmt := (topS 27)
abbrev N__law_take : List Str := ["_law_source_here", "_law_many", "_law_mixed", "_law_cell", "_law_value"]
theorem sc__law_take : FnScope N__law_take ["_law_source_here", "_law_many"] (defScope s__law_take) := ⟨rfl, rfl, rfl, by decide +kernel, rfl, by decide +kernel, by decide +kernel⟩
abbrev s__law_word : Stmt := (topS 28)
abbrev N__law_word : List Str := ["_law_source_here", "_law_size", "_law_letters", "_law_signs", "_law_word_here", "_law_number", "_law_k"]
theorem sc__law_word : FnScope N__law_word ["_law_source_here", "_law_size"] (defScope s__law_word) := ⟨rfl, rfl, rfl, by decide +kernel, rfl, by decide +kernel, by decide +kernel⟩
abbrev s__law_names : Stmt := (topS 29)
abbrev N__law_names : List Str := ["_law_source_here", "_law_many", "_law_letters", "_law_style", "_law_size", "_law_at", "_law_base", "_law_shift", "_law_pace", "_law_names_here", "_law_k", "_law_letter"]
theorem sc__law_names : FnScope N__law_names ["_law_source_here", "_law_many"] (defScope s__law_names) := ⟨rfl, rfl, rfl, by decide +kernel, rfl, by decide +kernel, by decide +kernel⟩
abbrev s__law_flip : Stmt := (topS 30)
abbrev N__law_flip : List Str := ["_law_literal"]
theorem sc__law_flip : FnScope N__law_flip ["_law_literal"] (defScope s__law_flip) := ⟨rfl, rfl, rfl, by decide +kernel, rfl, by decide +kernel, by decide +kernel⟩
abbrev s__law_name : Stmt := (topS 31)
abbrev N__law_name : List Str := ["_law_literal"]
theorem sc__law_name : FnScope N__law_name ["_law_literal"] (defScope s__law_name) := ⟨rfl, rfl, rfl, by decide +kernel, rfl, by decide +kernel, by decide +kernel⟩
abbrev s__law_sorted : Stmt := (topS 32)
abbrev N__law_sorted : List Str := ["_law_names_here", "_law_result", "_law_name_here", "_law_each"]
theorem sc__law_sorted : FnScope N__law_sorted ["_law_names_here"] (defScope s__law_sorted) := ⟨rfl, rfl, rfl, by decide +kernel, rfl, by decide +kernel, by decide +kernel⟩
abbrev s__law_ordered : Stmt := (topS 33)
abbrev N__law_ordered : List Str := ["_law_literals", "_law_result", "_law_name_here", "_law_each"]
theorem sc__law_ordered : FnScope N__law_ordered ["_law_literals"] (defScope s__law_ordered) := ⟨rfl, rfl, rfl, by decide +kernel, rfl, by decide +kernel, by decide +kernel⟩
abbrev s__law_same : Stmt := (topS 34)
abbrev N__law_same : List Str := ["_law_one", "_law_other", "_law_lists", "_law_k"]
theorem sc__law_same : FnScope N__law_same ["_law_one", "_law_other"] (defScope s__law_same) := ⟨rfl, rfl, rfl, by decide +kernel, rfl, by decide +kernel, by decide +kernel⟩
abbrev s__law_row : Stmt := (topS 35)
abbrev N__law_row : List Str := ["_law_source_here", "_law_names_here", "_law_most", "_law_row_here", "_law_k", "_law_name_here"]
theorem sc__law_row : FnScope N__law_row ["_law_source_here", "_law_names_here", "_law_most"] (defScope s__law_row) := ⟨rfl, rfl, rfl, by decide +kernel, rfl, by decide +kernel, by decide +kernel⟩
abbrev s__law_clause : Stmt := (topS 36)
abbrev N__law_clause : List Str := ["_law_row_here"]
theorem sc__law_clause : FnScope N__law_clause ["_law_row_here"] (defScope s__law_clause) := ⟨rfl, rfl, rfl, by decide +kernel, rfl, by decide +kernel, by decide +kernel⟩
abbrev s__law_bad : Stmt := (topS 37)
abbrev N__law_bad : List Str := ["_law_source_here", "_law_name_here", "_law_barred", "_law_style", "_law_at"]
theorem sc__law_bad : FnScope N__law_bad ["_law_source_here", "_law_name_here"] (defScope s__law_bad) := ⟨rfl, rfl, rfl, by decide +kernel, rfl, by decide +kernel, by decide +kernel⟩
abbrev s__law_sign : Stmt := (topS 38)
abbrev N__law_sign : List Str := ["_law_source_here", "_law_signs"]
theorem sc__law_sign : FnScope N__law_sign ["_law_source_here"] (defScope s__law_sign) := ⟨rfl, rfl, rfl, by decide +kernel, rfl, by decide +kernel, by decide +kernel⟩
abbrev s__law_is_name : Stmt := (topS 39)
abbrev N__law_is_name : List Str := ["_law_text_here", "_law_letters", "_law_sign_here"]
theorem sc__law_is_name : FnScope N__law_is_name ["_law_text_here"] (defScope s__law_is_name) := ⟨rfl, rfl, rfl, by decide +kernel, rfl, by decide +kernel, by decide +kernel⟩
abbrev s__law_row_of : Stmt := (topS 40)
abbrev N__law_row_of : List Str := ["_law_text_here", "_law_row_here", "_law_literal"]
theorem sc__law_row_of : FnScope N__law_row_of ["_law_text_here"] (defScope s__law_row_of) := ⟨rfl, rfl, rfl, by decide +kernel, rfl, by decide +kernel, by decide +kernel⟩
abbrev s__law_changed : Stmt := (topS 41)
abbrev N__law_changed : List Str := ["_law_source_here", "_law_text_here", "_law_at", "_law_style"]
theorem sc__law_changed : FnScope N__law_changed ["_law_source_here", "_law_text_here", "_law_at"] (defScope s__law_changed) := ⟨rfl, rfl, rfl, by decide +kernel, rfl, by decide +kernel, by decide +kernel⟩
abbrev s__law_spaced : Stmt := (topS 42)
abbrev N__law_spaced : List Str := ["_law_source_here", "_law_text_here", "_law_style"]
theorem sc__law_spaced : FnScope N__law_spaced ["_law_source_here", "_law_text_here"] (defScope s__law_spaced) := ⟨rfl, rfl, rfl, by decide +kernel, rfl, by decide +kernel, by decide +kernel⟩
abbrev s__law_text : Stmt := (topS 43)
abbrev N__law_text : List Str := ["_law_source_here", "_law_names_here", "_law_row_here", "_law_style", "_law_at", "_law_text_here", "_law_k"]
theorem sc__law_text : FnScope N__law_text ["_law_source_here", "_law_names_here"] (defScope s__law_text) := ⟨rfl, rfl, rfl, by decide +kernel, rfl, by decide +kernel, by decide +kernel⟩
abbrev s__law_refused : Stmt := (topS 44)
abbrev N__law_refused : List Str := ["_law_text_here", "error", "_law_right"]
theorem sc__law_refused : FnScope N__law_refused ["_law_text_here"] (defScope s__law_refused) := ⟨rfl, rfl, rfl, by decide +kernel, rfl, by decide +kernel, by decide +kernel⟩
abbrev s_law : Stmt := (topS 45)
abbrev N_law : List Str := ["_law_script", "_law_source_here", "_law_names_here", "_law_k", "_law_text_here", "_law_row_here", "_law_clause_here"]
theorem sc_law : FnScope N_law ["_law_script"] (defScope s_law) := ⟨rfl, rfl, rfl, by decide +kernel, rfl, by decide +kernel, by decide +kernel⟩
abbrev me_BadLiteral : PySem.Expr := (.JoinedStr [(.Constant (.str "not a literal: ") 0 ⟨10, 27, 10, 42⟩), (.FormattedValue (.Name "text" ⟨10, 43, 10, 47⟩) 114 none ⟨10, 42, 10, 50⟩)] ⟨10, 25, 10, 51⟩)
abbrev ea_BadLiteral : Arguments := (args1 "text" ⟨9, 17, 9, 21⟩ ⟨9, 23, 9, 27⟩)
abbrev eb_BadLiteral : List Stmt := [supS me_BadLiteral ⟨10, 8, 10, 13⟩ ⟨10, 8, 10, 15⟩ ⟨10, 8, 10, 24⟩ ⟨10, 8, 10, 52⟩ ⟨10, 8, 10, 52⟩, keepS "text" ⟨11, 8, 11, 12⟩ ⟨11, 8, 11, 17⟩ ⟨11, 20, 11, 24⟩ ⟨11, 8, 11, 24⟩]
abbrev me_BadText : PySem.Expr := (.JoinedStr [(.Constant (.str "line ") 0 ⟨15, 27, 15, 32⟩), (.FormattedValue (.Name "line" ⟨15, 33, 15, 37⟩) (-1) none ⟨15, 32, 15, 38⟩), (.Constant (.str " cannot be read") 0 ⟨15, 38, 15, 53⟩)] ⟨15, 25, 15, 54⟩)
abbrev ea_BadText : Arguments := (args1 "line" ⟨14, 17, 14, 21⟩ ⟨14, 23, 14, 27⟩)
abbrev eb_BadText : List Stmt := [supS me_BadText ⟨15, 8, 15, 13⟩ ⟨15, 8, 15, 15⟩ ⟨15, 8, 15, 24⟩ ⟨15, 8, 15, 55⟩ ⟨15, 8, 15, 55⟩, keepS "line" ⟨16, 8, 16, 12⟩ ⟨16, 8, 16, 17⟩ ⟨16, 20, 16, 24⟩ ⟨16, 8, 16, 24⟩]
abbrev me_BothSigns : PySem.Expr := (.JoinedStr [(.FormattedValue (.Name "name" ⟨20, 28, 20, 32⟩) (-1) none ⟨20, 27, 20, 33⟩), (.Constant (.str " stands in both signs") 0 ⟨20, 33, 20, 54⟩)] ⟨20, 25, 20, 55⟩)
abbrev ea_BothSigns : Arguments := (args1 "name" ⟨19, 17, 19, 21⟩ ⟨19, 23, 19, 27⟩)
abbrev eb_BothSigns : List Stmt := [supS me_BothSigns ⟨20, 8, 20, 13⟩ ⟨20, 8, 20, 15⟩ ⟨20, 8, 20, 24⟩ ⟨20, 8, 20, 56⟩ ⟨20, 8, 20, 56⟩, keepS "name" ⟨21, 8, 21, 12⟩ ⟨21, 8, 21, 17⟩ ⟨21, 20, 21, 24⟩ ⟨21, 8, 21, 24⟩]
abbrev me_TooMany : PySem.Expr := (.JoinedStr [(.Constant (.str "there may be at most ") 0 ⟨25, 27, 25, 48⟩), (.FormattedValue (.Name "limit" ⟨25, 49, 25, 54⟩) (-1) none ⟨25, 48, 25, 55⟩)] ⟨25, 25, 25, 56⟩)
abbrev ea_TooMany : Arguments := (args1 "limit" ⟨24, 17, 24, 21⟩ ⟨24, 23, 24, 28⟩)
abbrev eb_TooMany : List Stmt := [supS me_TooMany ⟨25, 8, 25, 13⟩ ⟨25, 8, 25, 15⟩ ⟨25, 8, 25, 24⟩ ⟨25, 8, 25, 57⟩ ⟨25, 8, 25, 57⟩, keepS "limit" ⟨26, 8, 26, 12⟩ ⟨26, 8, 26, 18⟩ ⟨26, 21, 26, 26⟩ ⟨26, 8, 26, 26⟩]
theorem fld_limit : Fld "limit" := ⟨fun _ _ _ _ _ _ _ _ _ _ _ _ _ _ => rfl, rfl, by decide, rfl, rfl, rfl, by decide⟩
theorem fld_line : Fld "line" := ⟨fun _ _ _ _ _ _ _ _ _ _ _ _ _ _ => rfl, rfl, by decide, rfl, rfl, rfl, by decide⟩
theorem fld_name : Fld "name" := ⟨fun _ _ _ _ _ _ _ _ _ _ _ _ _ _ => rfl, rfl, by decide, rfl, rfl, rfl, by decide⟩
theorem fld_text : Fld "text" := ⟨fun _ _ _ _ _ _ _ _ _ _ _ _ _ _ => rfl, rfl, by decide, rfl, rfl, rfl, by decide⟩
structure Txt (P : Program) (K : PySem.W.Frag) (mg : Str → Option Value) where
  C_Clause : Addr
  g_Clause : mg "Clause" = some (.ref C_Clause)
  cl_Clause : Cls K C_Clause
  mi_Clause : PySem.W.makesIn K C_Clause = true
  kc_Clause : PySem.W.keepIn K (.ref C_Clause) = true
  ins_Clause : C8.InsC K C_Clause
  na_Clause_literals : NoAttr K C_Clause "literals"
  kt_str_Clause : PySem.W.kitOne K (.type "str") (.ref C_Clause) = some false
  R_Clause : ClX.CRead K C_Clause (.type "type")
  V_Clause_LIMIT : ∃ u, ClX.CVal K C_Clause (.type "type") "LIMIT" (.int 6) u
  f_is_name : Addr
  d_is_name : FuncData
  F_is_name : Fun K "is_name" "is_name" s_is_name f_is_name d_is_name
  b_is_name : Binds K d_is_name ["text"] []
  g_is_name : mg "is_name" = some (.ref f_is_name)
  f_is_literal : Addr
  d_is_literal : FuncData
  F_is_literal : Fun K "is_literal" "is_literal" s_is_literal f_is_literal d_is_literal
  b_is_literal : Binds K d_is_literal ["text"] []
  g_is_literal : mg "is_literal" = some (.ref f_is_literal)
  f_check_literal : Addr
  d_check_literal : FuncData
  F_check_literal : Fun K "check_literal" "check_literal" s_check_literal f_check_literal d_check_literal
  b_check_literal : Binds K d_check_literal ["text"] []
  g_check_literal : mg "check_literal" = some (.ref f_check_literal)
  f_name_of : Addr
  d_name_of : FuncData
  F_name_of : Fun K "name_of" "name_of" s_name_of f_name_of d_name_of
  b_name_of : Binds K d_name_of ["literal"] []
  g_name_of : mg "name_of" = some (.ref f_name_of)
  f_is_positive : Addr
  d_is_positive : FuncData
  F_is_positive : Fun K "is_positive" "is_positive" s_is_positive f_is_positive d_is_positive
  b_is_positive : Binds K d_is_positive ["literal"] []
  g_is_positive : mg "is_positive" = some (.ref f_is_positive)
  f_negated : Addr
  d_negated : FuncData
  F_negated : Fun K "negated" "negated" s_negated f_negated d_negated
  b_negated : Binds K d_negated ["literal"] []
  g_negated : mg "negated" = some (.ref f_negated)
  f_both_signs : Addr
  d_both_signs : FuncData
  F_both_signs : Fun K "both_signs" "both_signs" s_both_signs f_both_signs d_both_signs
  b_both_signs : Binds K d_both_signs ["names"] []
  g_both_signs : mg "both_signs" = some (.ref f_both_signs)
  f_in_order : Addr
  d_in_order : FuncData
  F_in_order : Fun K "in_order" "in_order" s_in_order f_in_order d_in_order
  b_in_order : Binds K d_in_order ["literals"] []
  g_in_order : mg "in_order" = some (.ref f_in_order)
  f_check_signs : Addr
  d_check_signs : FuncData
  F_check_signs : Fun K "check_signs" "check_signs" s_check_signs f_check_signs d_check_signs
  b_check_signs : Binds K d_check_signs ["ordered"] []
  g_check_signs : mg "check_signs" = some (.ref f_check_signs)
  f_Clause_init : Addr
  d_Clause_init : FuncData
  F_Clause_init : Fun K "__init__" "Clause.__init__" s_Clause_init f_Clause_init d_Clause_init
  m_Clause_init : PySem.W.findIn K (.ref C_Clause) "__init__" = some (some (.ref f_Clause_init))
  i_Clause_init : PySem.W.isFn K (.ref f_Clause_init) = true
  f_Clause_eq : Addr
  d_Clause_eq : FuncData
  F_Clause_eq : Fun K "__eq__" "Clause.__eq__" s_Clause_eq f_Clause_eq d_Clause_eq
  m_Clause_eq : PySem.W.findIn K (.ref C_Clause) "__eq__" = some (some (.ref f_Clause_eq))
  i_Clause_eq : PySem.W.isFn K (.ref f_Clause_eq) = true
  b_Clause_eq : Binds K d_Clause_eq ["self", "other"] []
  f_Clause_str : Addr
  d_Clause_str : FuncData
  F_Clause_str : Fun K "__str__" "Clause.__str__" s_Clause_str f_Clause_str d_Clause_str
  m_Clause_str : PySem.W.findIn K (.ref C_Clause) "__str__" = some (some (.ref f_Clause_str))
  i_Clause_str : PySem.W.isFn K (.ref f_Clause_str) = true
  b_Clause_str : Binds K d_Clause_str ["self"] []
  f__clause_in : Addr
  d__clause_in : FuncData
  F__clause_in : Fun K "_clause_in" "_clause_in" s__clause_in f__clause_in d__clause_in
  b__clause_in : Binds K d__clause_in ["text", "line"] []
  g__clause_in : mg "_clause_in" = some (.ref f__clause_in)
  f_read_clause : Addr
  d_read_clause : FuncData
  F_read_clause : Fun K "read_clause" "read_clause" s_read_clause f_read_clause d_read_clause
  b_read_clause : Binds K d_read_clause ["text"] []
  g_read_clause : mg "read_clause" = some (.ref f_read_clause)
  f__law_source : Addr
  d__law_source : FuncData
  F__law_source : Fun K "_law_source" "_law_source" s__law_source f__law_source d__law_source
  b__law_source : Binds K d__law_source ["_law_script"] []
  g__law_source : mg "_law_source" = some (.ref f__law_source)
  f__law_take : Addr
  d__law_take : FuncData
  F__law_take : Fun K "_law_take" "_law_take" s__law_take f__law_take d__law_take
  b__law_take : Binds K d__law_take ["_law_source_here", "_law_many"] []
  g__law_take : mg "_law_take" = some (.ref f__law_take)
  f__law_word : Addr
  d__law_word : FuncData
  F__law_word : Fun K "_law_word" "_law_word" s__law_word f__law_word d__law_word
  b__law_word : Binds K d__law_word ["_law_source_here", "_law_size"] []
  g__law_word : mg "_law_word" = some (.ref f__law_word)
  f__law_names : Addr
  d__law_names : FuncData
  F__law_names : Fun K "_law_names" "_law_names" s__law_names f__law_names d__law_names
  b__law_names : Binds K d__law_names ["_law_source_here", "_law_many"] []
  g__law_names : mg "_law_names" = some (.ref f__law_names)
  f__law_flip : Addr
  d__law_flip : FuncData
  F__law_flip : Fun K "_law_flip" "_law_flip" s__law_flip f__law_flip d__law_flip
  b__law_flip : Binds K d__law_flip ["_law_literal"] []
  g__law_flip : mg "_law_flip" = some (.ref f__law_flip)
  f__law_name : Addr
  d__law_name : FuncData
  F__law_name : Fun K "_law_name" "_law_name" s__law_name f__law_name d__law_name
  b__law_name : Binds K d__law_name ["_law_literal"] []
  g__law_name : mg "_law_name" = some (.ref f__law_name)
  f__law_sorted : Addr
  d__law_sorted : FuncData
  F__law_sorted : Fun K "_law_sorted" "_law_sorted" s__law_sorted f__law_sorted d__law_sorted
  b__law_sorted : Binds K d__law_sorted ["_law_names_here"] []
  g__law_sorted : mg "_law_sorted" = some (.ref f__law_sorted)
  f__law_ordered : Addr
  d__law_ordered : FuncData
  F__law_ordered : Fun K "_law_ordered" "_law_ordered" s__law_ordered f__law_ordered d__law_ordered
  b__law_ordered : Binds K d__law_ordered ["_law_literals"] []
  g__law_ordered : mg "_law_ordered" = some (.ref f__law_ordered)
  f__law_same : Addr
  d__law_same : FuncData
  F__law_same : Fun K "_law_same" "_law_same" s__law_same f__law_same d__law_same
  b__law_same : Binds K d__law_same ["_law_one", "_law_other"] []
  g__law_same : mg "_law_same" = some (.ref f__law_same)
  f__law_row : Addr
  d__law_row : FuncData
  F__law_row : Fun K "_law_row" "_law_row" s__law_row f__law_row d__law_row
  b__law_row : Binds K d__law_row ["_law_source_here", "_law_names_here", "_law_most"] []
  g__law_row : mg "_law_row" = some (.ref f__law_row)
  f__law_clause : Addr
  d__law_clause : FuncData
  F__law_clause : Fun K "_law_clause" "_law_clause" s__law_clause f__law_clause d__law_clause
  b__law_clause : Binds K d__law_clause ["_law_row_here"] []
  g__law_clause : mg "_law_clause" = some (.ref f__law_clause)
  f__law_bad : Addr
  d__law_bad : FuncData
  F__law_bad : Fun K "_law_bad" "_law_bad" s__law_bad f__law_bad d__law_bad
  b__law_bad : Binds K d__law_bad ["_law_source_here", "_law_name_here"] []
  g__law_bad : mg "_law_bad" = some (.ref f__law_bad)
  f__law_sign : Addr
  d__law_sign : FuncData
  F__law_sign : Fun K "_law_sign" "_law_sign" s__law_sign f__law_sign d__law_sign
  b__law_sign : Binds K d__law_sign ["_law_source_here"] []
  g__law_sign : mg "_law_sign" = some (.ref f__law_sign)
  f__law_is_name : Addr
  d__law_is_name : FuncData
  F__law_is_name : Fun K "_law_is_name" "_law_is_name" s__law_is_name f__law_is_name d__law_is_name
  b__law_is_name : Binds K d__law_is_name ["_law_text_here"] []
  g__law_is_name : mg "_law_is_name" = some (.ref f__law_is_name)
  f__law_row_of : Addr
  d__law_row_of : FuncData
  F__law_row_of : Fun K "_law_row_of" "_law_row_of" s__law_row_of f__law_row_of d__law_row_of
  b__law_row_of : Binds K d__law_row_of ["_law_text_here"] []
  g__law_row_of : mg "_law_row_of" = some (.ref f__law_row_of)
  f__law_changed : Addr
  d__law_changed : FuncData
  F__law_changed : Fun K "_law_changed" "_law_changed" s__law_changed f__law_changed d__law_changed
  b__law_changed : Binds K d__law_changed ["_law_source_here", "_law_text_here", "_law_at"] []
  g__law_changed : mg "_law_changed" = some (.ref f__law_changed)
  f__law_spaced : Addr
  d__law_spaced : FuncData
  F__law_spaced : Fun K "_law_spaced" "_law_spaced" s__law_spaced f__law_spaced d__law_spaced
  b__law_spaced : Binds K d__law_spaced ["_law_source_here", "_law_text_here"] []
  g__law_spaced : mg "_law_spaced" = some (.ref f__law_spaced)
  f__law_text : Addr
  d__law_text : FuncData
  F__law_text : Fun K "_law_text" "_law_text" s__law_text f__law_text d__law_text
  b__law_text : Binds K d__law_text ["_law_source_here", "_law_names_here"] []
  g__law_text : mg "_law_text" = some (.ref f__law_text)
  f__law_refused : Addr
  d__law_refused : FuncData
  F__law_refused : Fun K "_law_refused" "_law_refused" s__law_refused f__law_refused d__law_refused
  b__law_refused : Binds K d__law_refused ["_law_text_here"] []
  g__law_refused : mg "_law_refused" = some (.ref f__law_refused)
  f_law : Addr
  d_law : FuncData
  F_law : Fun K "law" "law" s_law f_law d_law
  b_law : Binds K d_law ["_law_script"] []
  g_law : mg "law" = some (.ref f_law)
  om_Clause : mro2 K C_Clause = true
  t_LETTERS : Tok
  v_LETTERS : mg "LETTERS" = some (.str "abcdefghijklmnopqrstuvwxyz" t_LETTERS)
  t_LETTERS_AND_DIGITS : Tok
  v_LETTERS_AND_DIGITS : mg "LETTERS_AND_DIGITS" = some (.str "abcdefghijklmnopqrstuvwxyz0123456789" t_LETTERS_AND_DIGITS)
  t_LONGEST_NAME : Tok
  v_LONGEST_NAME : mg "LONGEST_NAME" = some (.int 8 t_LONGEST_NAME)
  C_HornError : Addr
  g_HornError : mg "HornError" = some (.ref C_HornError)
  C_BadLiteral : Addr
  i_BadLiteral : Addr
  E_BadLiteral : Cls1 P K mg "BadLiteral" C_BadLiteral i_BadLiteral ea_BadLiteral eb_BadLiteral (scope1 "text")
  o_BadLiteral : PySem.W.findIn K (.ref C_BadLiteral) "text" = some none
  x_BadLiteral : ExcC K C_BadLiteral
  C_BadText : Addr
  i_BadText : Addr
  E_BadText : Cls1 P K mg "BadText" C_BadText i_BadText ea_BadText eb_BadText (scope1 "line")
  o_BadText : PySem.W.findIn K (.ref C_BadText) "line" = some none
  x_BadText : ExcC K C_BadText
  C_BothSigns : Addr
  i_BothSigns : Addr
  E_BothSigns : Cls1 P K mg "BothSigns" C_BothSigns i_BothSigns ea_BothSigns eb_BothSigns (scope1 "name")
  o_BothSigns : PySem.W.findIn K (.ref C_BothSigns) "name" = some none
  x_BothSigns : ExcC K C_BothSigns
  C_TooMany : Addr
  i_TooMany : Addr
  E_TooMany : Cls1 P K mg "TooMany" C_TooMany i_TooMany ea_TooMany eb_TooMany (scope1 "limit")
  o_TooMany : PySem.W.findIn K (.ref C_TooMany) "limit" = some none
  x_TooMany : ExcC K C_TooMany
  su_BothSigns_BadLiteral : PySem.W.subIn K (.ref C_BothSigns) (.ref C_BadLiteral) = some false
  su_TooMany_BadLiteral : PySem.W.subIn K (.ref C_TooMany) (.ref C_BadLiteral) = some false
  su_TooMany_BothSigns : PySem.W.subIn K (.ref C_TooMany) (.ref C_BothSigns) = some false
  su_BadLiteral_BothSigns : PySem.W.subIn K (.ref C_BadLiteral) (.ref C_BothSigns) = some false
  su_BadLiteral_TooMany : PySem.W.subIn K (.ref C_BadLiteral) (.ref C_TooMany) = some false
  su_BothSigns_TooMany : PySem.W.subIn K (.ref C_BothSigns) (.ref C_TooMany) = some false
  k_BadLiteral_BadLiteral : ∃ b, PySem.W.kitOne K (.ref C_BadLiteral) (.ref C_BadLiteral) = some b ∧ b = true
  k_BadLiteral_BothSigns : ∃ b, PySem.W.kitOne K (.ref C_BadLiteral) (.ref C_BothSigns) = some b ∧ b = false
  k_BadLiteral_HornError : ∃ b, PySem.W.kitOne K (.ref C_BadLiteral) (.ref C_HornError) = some b ∧ b = true
  k_BadLiteral_TooMany : ∃ b, PySem.W.kitOne K (.ref C_BadLiteral) (.ref C_TooMany) = some b ∧ b = false
  k_BadLiteral_ValueError : ∃ b, PySem.W.kitOne K (.ref C_BadLiteral) (.type "ValueError") = some b ∧ b = true
  k_BadText_BadLiteral : ∃ b, PySem.W.kitOne K (.ref C_BadText) (.ref C_BadLiteral) = some b ∧ b = false
  k_BadText_BothSigns : ∃ b, PySem.W.kitOne K (.ref C_BadText) (.ref C_BothSigns) = some b ∧ b = false
  k_BadText_HornError : ∃ b, PySem.W.kitOne K (.ref C_BadText) (.ref C_HornError) = some b ∧ b = true
  k_BadText_TooMany : ∃ b, PySem.W.kitOne K (.ref C_BadText) (.ref C_TooMany) = some b ∧ b = false
  k_BadText_ValueError : ∃ b, PySem.W.kitOne K (.ref C_BadText) (.type "ValueError") = some b ∧ b = true
  k_BothSigns_BadLiteral : ∃ b, PySem.W.kitOne K (.ref C_BothSigns) (.ref C_BadLiteral) = some b ∧ b = false
  k_BothSigns_BothSigns : ∃ b, PySem.W.kitOne K (.ref C_BothSigns) (.ref C_BothSigns) = some b ∧ b = true
  k_BothSigns_HornError : ∃ b, PySem.W.kitOne K (.ref C_BothSigns) (.ref C_HornError) = some b ∧ b = true
  k_BothSigns_TooMany : ∃ b, PySem.W.kitOne K (.ref C_BothSigns) (.ref C_TooMany) = some b ∧ b = false
  k_BothSigns_ValueError : ∃ b, PySem.W.kitOne K (.ref C_BothSigns) (.type "ValueError") = some b ∧ b = true
  k_TooMany_BadLiteral : ∃ b, PySem.W.kitOne K (.ref C_TooMany) (.ref C_BadLiteral) = some b ∧ b = false
  k_TooMany_BothSigns : ∃ b, PySem.W.kitOne K (.ref C_TooMany) (.ref C_BothSigns) = some b ∧ b = false
  k_TooMany_HornError : ∃ b, PySem.W.kitOne K (.ref C_TooMany) (.ref C_HornError) = some b ∧ b = true
  k_TooMany_TooMany : ∃ b, PySem.W.kitOne K (.ref C_TooMany) (.ref C_TooMany) = some b ∧ b = true
  k_TooMany_ValueError : ∃ b, PySem.W.kitOne K (.ref C_TooMany) (.type "ValueError") = some b ∧ b = true
  n_NotImplemented : mg "NotImplemented" = none
  n_ValueError : mg "ValueError" = none
  n_all : mg "all" = none
  n_any : mg "any" = none
  n_bool : mg "bool" = none
  n_int : mg "int" = none
  n_isinstance : mg "isinstance" = none
  n_iter : mg "iter" = none
  n_len : mg "len" = none
  n_list : mg "list" = none
  n_property : mg "property" = none
  n_range : mg "range" = none
  n_set : mg "set" = none
  n_sorted : mg "sorted" = none
  n_str : mg "str" = none
  n_super : mg "super" = none
  n_tuple : mg "tuple" = none
/-- the law gets a list of at most 63 ints and hands back True -/
def spLaw (K : PySem.W.Frag) : Sp := fun vs H Q _ => ∃ (a : Addr) (ns : List Int), vs = [.ref a] ∧ SqL K H a (ns.map V.int) ∧ ns.length ≤ 63 ∧ ∀ H', Q (.bl true) H'
section
variable {P : Program} {w : World} {K : PySem.W.Frag} {mg : Str → Option Value} {base : Heap}
/-! ### the source of drawn numbers -/
/-- what stands at b and is not a stands as before -/
def But (a : Addr) (H H' : Hp) : Prop := ∀ b o, b ≠ a → H b = some o → H' b = some o
theorem But.refl {a : Addr} {H : Hp} : But a H H := fun _ _ _ h => h
theorem But.trans {a : Addr} {H H1 H2 : Hp} (x : But a H H1) (y : But a H1 H2) : But a H H2 := fun b o n h => y b o n (x b o n h)
theorem But.upd {a : Addr} {H H1 : Hp} {o : HO} (x : But a H H1) : But a H (upd H1 a o) := fun b u n h => by
  rw [upd_ne n]
  exact x b u n h
theorem But.new {a p : Addr} {H H1 : Hp} {o u : HO} (x : But a H H1) (ha : H1 a = some u) (hp : H1 p = none) : But a H (L2.upd H1 p o) := fun b v n h => by
  rw [upd_ne (ne_of_none (x b v n h) hp)]
  exact x b v n h
theorem But.of {a : Addr} {H H1 : Hp} (x : Same H H1) : But a H H1 := fun b o _ h => x b o h
/-- the script's list at l beside four ints -/
def five (l : Addr) (i x k m : Int) : List V := [.ref l, .int i, .int x, .int k, .int m]
structure SrcL (H : Hp) (a l : Addr) (ns : List Int) : Prop where
  at_ : ∃ i x k m : Int, 0 ≤ i ∧ H a = some (.lst (five l i x k m))
  li : H l = some (.lst (ns.map V.int))
theorem src_ne {H : Hp} {a l : Addr} {ns : List Int} (S : SrcL H a l ns) : l ≠ a := fun e => by
  obtain ⟨i, x, k, m, _, h⟩ := S.at_
  have h2 := S.li
  rw [e, h] at h2
  have h3 := HO.lst.inj (Option.some.inj h2)
  cases ns with
  | nil => exact absurd h3 (by simp [five])
  | cons y r =>
    have h4 := (List.cons.inj h3).1
    cases h4
/-- a source at a -/
def Src (H : Hp) (a : Addr) : Prop := ∃ (l : Addr) (ns : List Int), SrcL H a l ns
theorem Src.keep {H H' : Hp} {a : Addr} (S : Src H a) (k : Same H H') : Src H' a := by
  obtain ⟨l, ns, ⟨i, x, j, m, h0, h⟩, hl⟩ := S
  exact ⟨l, ns, ⟨i, x, j, m, h0, k _ _ h⟩, k _ _ hl⟩
theorem Src.new {H : Hp} {a p : Addr} {o : HO} (S : Src H a) (hp : H p = none) : Src (upd H p o) a := S.keep fun b u h => by
  rw [upd_ne (ne_of_none h hp)]
  exact h
theorem Src.some {H : Hp} {a : Addr} (S : Src H a) : ∃ o, H a = Option.some o := by
  obtain ⟨l, ns, ⟨i, x, k, m, h0, h⟩, hl⟩ := S
  exact ⟨_, h⟩
theorem fmod_lo (x : Int) {m : Int} (h : 1 ≤ m) : 0 ≤ x.fmod m := Int.fmod_nonneg_of_pos x (by omega)
theorem fmod_hi (x : Int) {m : Int} (h : 1 ≤ m) : x.fmod m < m := Int.fmod_lt_of_pos x (by omega)
/-- _law_take(source, many), the script's list named -/
def spTakeL : Sp := fun vs H Q _ => ∃ (a : Addr) (many : Int) (l : Addr) (ns : List Int), vs = [.ref a, .int many] ∧ SrcL H a l ns ∧ 1 ≤ many ∧ many < 2 ^ 64 ∧ ∀ H' r, 0 ≤ r → r < many → SrcL H' a l ns → But a H H' → Q (.int r) H'
theorem okL__law_take (T : Txt P K mg) : FnOk P w K mg base CX0 1 T.f__law_take T.d__law_take ["_law_source_here", "_law_many"] spTakeL := by
  refine T.F__law_take.ok sc__law_take (fun vs H Q E h => ?_) (fun cdv A outer s H vs Q E hr h => ?_)
  · obtain ⟨a, many, l, ns, rfl, _⟩ := h
    rfl
  · obtain ⟨a, many, l, ns, rfl, S, h1, h64, q⟩ := h
    have nla := src_ne S
    obtain ⟨⟨i, x, k, m, hi0, h⟩, hl⟩ := S
    refine ⟨_, (Evl.pss_cut (ps_if (pt_cmpR op_eq (pe_ix ix_list (pv 0) pe_int (fun _ _ => rfl)) pe_int (nomark _)) (pss_cons (ps_if (pt_cmpR op_ge (pe_ix ix_list (pv 0) pe_int (fun _ _ => rfl)) (pe_callB call_len_seq (by rfl) T.n_len PySem.boot_len (pa_cons (pe_ix ix_list (pv 0) pe_int (fun _ _ => rfl)) pa_nil)) (nomark _)) (pss_one (ps_ret pe_int)) pss_nil)
      (pss_cons (ps_set (i := 3) sc__law_take.nd rfl (.inl rfl) (pe_callTy call_int1 (by rfl) T.n_int (by decide +kernel) (pa_cons (pe_ix ix_list (pe_ix ix_list (pv 0) pe_int (fun _ _ => rfl)) (pe_ix ix_list (pv 0) pe_int (fun _ _ => rfl)) (fun _ _ => rfl)) pa_nil)))
      (pss_cons (ps_asg (pe_op op_add (pe_ix ix_list (pv 0) pe_int (fun _ _ => rfl)) pe_int) (pg_sub (pv 0) pe_int set_list))
      (pss_cons (ps_asg (pv 3) (pg_sub (pv 0) pe_int set_list))
      (pss_cons (ps_asg pe_int (pg_sub (pv 0) pe_int set_list))
      (pss_cons (ps_asg pe_int (pg_sub (pv 0) pe_int set_list))
      (pss_one (ps_if (pt_cmpR op_ge (pv 3) (pe_op op_pow pe_int pe_int) (nomark _)) (pss_cons (ps_asg pe_int (pg_sub (pv 0) pe_int set_list))
      (pss_one (ps_asg pe_int (pg_sub (pv 0) pe_int set_list)))) pss_nil)))))))) pss_nil)
      (pss_cons (ps_asg (pe_op op_sub (pe_ix ix_list (pv 0) pe_int (fun _ _ => rfl)) pe_int) (pg_sub (pv 0) pe_int set_list))
      (pss_cons (ps_if (pt_cmpR op_eq (pe_ix ix_list (pv 0) pe_int (fun _ _ => rfl)) pe_int (nomark _)) (pss_cons (ps_set (i := 4) sc__law_take.nd rfl (.inl rfl) (pe_op op_modN (pe_callTy call_int1 (by rfl) T.n_int (by decide +kernel) (pa_cons (pe_ix ix_list (pv 0) pe_int (fun _ _ => rfl)) pa_nil)) (pv 1)))
      (pss_cons (ps_asg (pe_op op_fdivW (pe_ix ix_list (pv 0) pe_int (fun _ _ => rfl)) (pv 1)) (pg_sub (pv 0) pe_int set_list))
      (pss_cons (ps_if (pt_cmpR op_eq (pe_ix ix_list (pv 0) pe_int (fun _ _ => rfl)) pe_int (nomark _)) (pss_one (ps_asg pe_int (pg_sub (pv 0) pe_int set_list))) pss_nil)
      (pss_one (ps_ret (pv 4)))))) pss_nil)
      (pss_cons (ps_set (i := 2) sc__law_take.nd rfl (.inl rfl) (pe_op op_modN (pe_callTy call_int1 (by rfl) T.n_int (by decide +kernel) (pa_cons (pe_op op_add (pe_op op_add (pe_op op_mul (pe_ix ix_list (pv 0) pe_int (fun _ _ => rfl)) pe_int) (pe_op op_mul (pe_ix ix_list (pv 0) pe_int (fun _ _ => rfl)) pe_int)) pe_int) pa_nil)) pe_int))
      (pss_cons (ps_set (i := 2) sc__law_take.nd rfl (.inl rfl) (pe_op op_modN (pe_callTy call_int1 (by rfl) T.n_int (by decide +kernel) (pa_cons (pe_op op_add (pe_op op_add (pe_op op_mul (pv 2) pe_int) (pe_op op_mul (pe_ix ix_list (pv 0) pe_int (fun _ _ => rfl)) pe_int)) pe_int) pa_nil)) pe_int))
      (pss_one (ps_ret (pe_op op_modN (pe_callTy call_int1 (by rfl) T.n_int (by decide +kernel) (pa_cons (pv 2) pa_nil)) (pv 1))))))))), ?_⟩
    refine ⟨fun σ' H' => ∃ (cv : Option V) (i x k m : Int), σ' = [some (.ref a), some (.int many), none, cv, none] ∧ 0 ≤ i ∧ H' a = some (.lst (five l i x k m)) ∧ H' l = some (.lst (ns.map V.int)) ∧ But a H H', ?_, ?_⟩
    · refine ⟨.ref a, rfl, a, _, 3, _, rfl, rfl, SqL.of h, atI_nat (j := 3) rfl, rfl, _, rfl, ite2 (fun e => ?_) (fun e => ?_)⟩
      · refine ⟨.ref a, rfl, a, _, 1, _, rfl, rfl, SqL.of h, atI_nat (j := 1) rfl, .ref a, rfl, a, _, 0, _, rfl, rfl, SqL.of h, atI_nat (j := 0) rfl, l, _, rfl, .inl (SqL.of hl), _, _, rfl, rfl, _, rfl, ite2 (fun e1 => ?_) (fun e1 => ?_)⟩
        · exact q H 0 (by omega) (by omega) ⟨⟨i, x, k, m, hi0, h⟩, hl⟩ But.refl
        · have hin : i.toNat < ns.length := by
            have z : ¬ ((ns.map V.int).length : Int) ≤ i := fun z => e1 (decide_eq_true z)
            rw [List.length_map] at z
            omega
          have hg : (ns.map V.int)[i.toNat]? = some (.int ns[i.toNat]) := by
            rw [List.getElem?_map, List.getElem?_eq_getElem hin]
            rfl
          refine ⟨.ref a, rfl, a, _, 0, _, rfl, rfl, SqL.of h, atI_nat (j := 0) rfl, .ref a, rfl, a, _, 1, _, rfl, rfl, SqL.of h, atI_nat (j := 1) rfl, l, _, i, _, rfl, rfl, SqL.of hl, at_of (by omega) hg, .inl ⟨_, rfl, ?_⟩⟩
          refine ⟨.ref a, rfl, a, _, 1, _, rfl, rfl, SqL.of h, atI_nat (j := 1) rfl, _, _, rfl, rfl, .ref a, rfl, a, _, 1, 1, rfl, rfl, h, rfl, ?_⟩
          refine ⟨_, rfl, .ref a, rfl, a, _, 2, 2, rfl, rfl, upd_same, rfl, ?_⟩
          refine ⟨.ref a, rfl, a, _, 3, 3, rfl, rfl, upd_same, rfl, ?_⟩
          refine ⟨.ref a, rfl, a, _, 4, 4, rfl, rfl, upd_same, rfl, ?_⟩
          refine ⟨_, rfl, _, _, rfl, rfl, ⟨by decide, by decide, by decide⟩, _, _, rfl, rfl, _, rfl, ite2 (fun e2 => ?_) (fun e2 => ?_)⟩
          · refine ⟨.ref a, rfl, a, _, 3, 3, rfl, rfl, upd_same, rfl, .ref a, rfl, a, _, 4, 4, rfl, rfl, upd_same, rfl, ?_⟩
            rw [upd_upd, upd_upd, upd_upd, upd_upd, upd_upd]
            exact ⟨_, i + 1, ns[i.toNat], 60, 1, rfl, by omega, upd_same, by rw [upd_ne nla]; exact hl, But.refl.upd⟩
          · rw [upd_upd, upd_upd, upd_upd]
            exact ⟨_, i + 1, ns[i.toNat], 4, 0, rfl, by omega, upd_same, by rw [upd_ne nla]; exact hl, But.refl.upd⟩
      · exact ⟨_, i, x, k, m, rfl, hi0, h, hl, But.refl⟩
    · rintro σ' H0 ⟨cv, i, x, k, m, rfl, hi0, h, hl, bt⟩
      have hl1 : ∀ o, (upd H0 a o) l = some (.lst (ns.map V.int)) := fun o => by
        rw [upd_ne nla]
        exact hl
      refine ⟨.ref a, rfl, a, _, 3, _, rfl, rfl, SqL.of h, atI_nat (j := 3) rfl, _, _, rfl, rfl, .ref a, rfl, a, _, 3, 3, rfl, rfl, h, rfl, ?_⟩
      have h2 : (upd H0 a (.lst ((five l i x k m).set 3 (.int (k - 1))))) a = some (.lst (five l i x (k - 1) m)) := upd_same
      refine ⟨.ref a, rfl, a, _, 4, _, rfl, rfl, SqL.of h2, atI_nat (j := 4) rfl, rfl, _, rfl, ite2 (fun e => ?_) (fun e => ?_)⟩
      · refine ⟨.ref a, rfl, a, _, 2, _, rfl, rfl, SqL.of h2, atI_nat (j := 2) rfl, .inl ⟨_, rfl, _, rfl, _, _, rfl, rfl, by omega, ?_⟩⟩
        refine ⟨.ref a, rfl, a, _, 2, _, rfl, rfl, SqL.of h2, atI_nat (j := 2) rfl, _, rfl, _, _, rfl, rfl, wide_div (b := 64) (by omega) (by omega) (by decide) (by decide), .ref a, rfl, a, _, 2, 2, rfl, rfl, h2, rfl, ?_⟩
        have h3 : ∀ o, (upd (upd H0 a o) a (.lst ((five l i x (k - 1) m).set 2 (.int (x / many))))) a = some (.lst (five l i (x / many) (k - 1) m)) := fun o => upd_same
        refine ⟨.ref a, rfl, a, _, 2, _, rfl, rfl, SqL.of (h3 _), atI_nat (j := 2) rfl, rfl, _, rfl, ite2 (fun e3 => ?_) (fun e3 => ?_)⟩
        · refine ⟨.ref a, rfl, a, _, 3, 3, rfl, rfl, upd_same, rfl, ?_⟩
          rw [upd_upd, upd_upd]
          exact ⟨_, rfl, q _ _ (fmod_lo x h1) (fmod_hi x h1) ⟨⟨i, x / many, 0, m, hi0, upd_same⟩, hl1 _⟩ bt.upd⟩
        · rw [upd_upd]
          exact ⟨_, rfl, q _ _ (fmod_lo x h1) (fmod_hi x h1) ⟨⟨i, x / many, k - 1, m, hi0, upd_same⟩, hl1 _⟩ bt.upd⟩
      · refine ⟨.ref a, rfl, a, _, 2, _, rfl, rfl, SqL.of h2, atI_nat (j := 2) rfl, _, _, rfl, rfl, .inr ⟨by decide, by decide⟩, .ref a, rfl, a, _, 3, _, rfl, rfl, SqL.of h2, atI_nat (j := 3) rfl, _, _, rfl, rfl, .inr ⟨by decide, by decide⟩, _, _, rfl, rfl, _, _, rfl, rfl, .inl ⟨_, rfl, _, _, rfl, rfl, (show (2147483647 : Int) ≠ 0 by decide), ?_⟩⟩
        refine ⟨_, rfl, _, _, rfl, rfl, .inr ⟨by decide, by decide⟩, .ref a, rfl, a, _, 3, _, rfl, rfl, SqL.of h2, atI_nat (j := 3) rfl, _, _, rfl, rfl, .inr ⟨by decide, by decide⟩, _, _, rfl, rfl, _, _, rfl, rfl, .inl ⟨_, rfl, _, _, rfl, rfl, (show (2147483629 : Int) ≠ 0 by decide), ?_⟩⟩
        refine ⟨_, rfl, .inl ⟨_, rfl, _, rfl, _, _, rfl, rfl, by omega, ?_⟩⟩
        exact q _ _ (fmod_lo _ h1) (fmod_hi _ h1) ⟨⟨i, x, k - 1, m, hi0, h2⟩, hl1 _⟩ bt.upd
/-- _law_source(script) -/
def spSource (K : PySem.W.Frag) : Sp := fun vs H Q _ => ∃ (a : Addr) (ns : List Int), vs = [.ref a] ∧ SqL K H a (ns.map V.int) ∧ ∀ H' p, Src H' p → H p = none → Same H H' → Q (.ref p) H'
theorem ok__law_source (T : Txt P K mg) : FnOk P w K mg base CX0 1 T.f__law_source T.d__law_source ["_law_script"] (spSource K) := by
  refine T.F__law_source.ok sc__law_source (fun vs H Q E h => ?_) (fun cdv A outer s H vs Q E hr h => ?_)
  · obtain ⟨a, ns, rfl, _⟩ := h
    rfl
  · obtain ⟨a, ns, rfl, S, q⟩ := h
    refine ⟨_, (pss_one (ps_ret (pe_lst (pa_cons (pe_callTy call_list_of (by rfl) T.n_list (by decide +kernel) (pa_cons (pv 0) pa_nil)) (pa_cons pe_int (pa_cons pe_int (pa_cons pe_int (pa_cons pe_int pa_nil)))))))), ?_⟩
    refine ⟨_, rfl, a, _, rfl, .inl S, fun l nl => ⟨(by show 5 ≤ sizeLine; decide), fun p np => ?_⟩⟩
    have lp : l ≠ p := fun e => by
      rw [e, upd_same] at np
      cases np
    have np0 : H p = none := by
      rw [upd_ne lp.symm] at np
      exact np
    refine q _ p ⟨l, ns, ⟨⟨0, 0, 0, 0, by decide, upd_same⟩, ?_⟩⟩ np0 fun b o e => ?_
    · rw [upd_ne lp, upd_same]
    · rw [upd_ne (ne_of_none e np0), upd_ne (ne_of_none e nl)]
      exact e
/-! ### answers of pure defs -/
def isBl : V → Bool
  | .bl _ => true
  | _ => false
def isIn : V → Bool
  | .int _ => true
  | _ => false
def isSt : V → Bool
  | .str _ => true
  | _ => false
def flat4 : V → Bool
  | .non => true
  | .bl _ => true
  | .int _ => true
  | .str _ => true
  | _ => false
theorem kit_flat {K : PySem.W.Frag} {x : V} (h : flat4 x = true) : ∃ t : String, (∀ H, TyX K H x (.type t)) ∧ kitB t "bool" = some (isBl x) ∧ kitB t "int" = some (isBl x || isIn x) ∧ kitB t "str" = some (isSt x) ∧ kitB t "list" = some false ∧ kitB t "tuple" = some false := by
  cases x with
  | non => exact ⟨"NoneType", fun _ => .base .non, by decide +kernel, by decide +kernel, by decide +kernel, by decide +kernel, by decide +kernel⟩
  | bl b => exact ⟨"bool", fun _ => .base (.bl b), (show kitB "bool" "bool" = some true by decide +kernel), (show kitB "bool" "int" = some true by decide +kernel), (show kitB "bool" "str" = some false by decide +kernel), (show kitB "bool" "list" = some false by decide +kernel), (show kitB "bool" "tuple" = some false by decide +kernel)⟩
  | int i => exact ⟨"int", fun _ => .base (.int i), (show kitB "int" "bool" = some false by decide +kernel), (show kitB "int" "int" = some true by decide +kernel), (show kitB "int" "str" = some false by decide +kernel), (show kitB "int" "list" = some false by decide +kernel), (show kitB "int" "tuple" = some false by decide +kernel)⟩
  | str z => exact ⟨"str", fun _ => .base (.str z), (show kitB "str" "bool" = some false by decide +kernel), (show kitB "str" "int" = some false by decide +kernel), (show kitB "str" "str" = some true by decide +kernel), (show kitB "str" "list" = some false by decide +kernel), (show kitB "str" "tuple" = some false by decide +kernel)⟩
  | byt b => cases h
  | flt b => cases h
  | ref a => cases h
  | ty n => cases h
open Evl in
theorem ev_isi {σ : L2.St} {H : Hp} {ta : TE} {x : V} {t c : String} {b : Bool} (h : Ev ta σ H x) (ht : ∀ H, TyX K H x (.type t)) (hk : kitB t c = some b) : Ev (tCB (rIsi K) (tCons ta (tCons (tC (.ty c)) tNil))) σ H (.bl b) :=
  ev_cb (ea_cons h (ea_cons ev_c ea_nil)) fun H1 _ Q q => ⟨x, .ty c, .type t, .type c, b, rfl, .ty c, ht H1, kit_ty hk, q H1 (Ex.refl H1)⟩
/-- _law_same(one, other) of two flat things -/
def spSame : Sp := fun vs H Q _ => ∃ x y, vs = [x, y] ∧ flat4 x = true ∧ flat4 y = true ∧ ∀ H', Evl.Ex H H' → Q (.bl (decide (x = y))) H'
theorem ne_bl {x y : V} (h : isBl x = true) (h2 : isBl y = false) : x ≠ y := fun e => by
  rw [e, h2] at h
  cases h
theorem scal_flat {x y : V} (hx : flat4 x = true) (hy : flat4 y = true) (h : (isBl x = true ∧ isBl y = true) ∨ (isIn x = true ∧ isIn y = true) ∨ (isSt x = true ∧ isSt y = true)) : scal x y = true := by
  cases x <;> cases y <;> first | rfl | (simp [isBl, isIn, isSt] at h) | cases hx | cases hy
theorem non_of {x : V} (h : flat4 x = true) (h1 : isBl x = false) (h2 : isIn x = false) (h3 : isSt x = false) : x = .non := by
  cases x with
  | non => rfl
  | bl b => cases h1
  | int i => cases h2
  | str z => cases h3
  | byt b => cases h
  | flt b => cases h
  | ref a => cases h
  | ty n => cases h
--@HOT ok__law_same
open Evl in
theorem ok__law_same (T : Txt P K mg) : FnOk P w K mg base CX0 1 T.f__law_same T.d__law_same ["_law_one", "_law_other"] spSame := by
  refine T.F__law_same.ok sc__law_same (fun vs H Q E h => ?_) (fun cdv A outer s H vs Q E hr h => ?_)
  · obtain ⟨x, y, rfl, _⟩ := h
    rfl
  · obtain ⟨x, y, rfl, hx, hy, q⟩ := h
    obtain ⟨tx, kx, bx, ix, sx, lx, ux⟩ := kit_flat (K := K) hx
    obtain ⟨ty, ky, by_, iy, sy, ly, uy⟩ := kit_flat (K := K) hy
    have vx : ∀ (σ : L2.St) (H : Hp), σ[0]? = some (some x) → Ev (tVar 0) σ H x := fun σ H e => ev_var e
    have vy : ∀ (σ : L2.St) (H : Hp), σ[1]? = some (some y) → Ev (tVar 1) σ H y := fun σ H e => ev_var e
    refine ⟨_, (pss_cons (ps_if (PW.pt (pw_or (pt_val (pe_callB call_isi (by rfl) T.n_isinstance (by decide +kernel) (pa_cons (pv 0) (pa_cons (pe_bltn (v := .ty "bool") (u := .type "bool") (by rfl) T.n_bool (by decide +kernel) rfl) pa_nil)))) (pw_or1 (pt_val (pe_callB call_isi (by rfl) T.n_isinstance (by decide +kernel) (pa_cons (pv 1) (pa_cons (pe_bltn (v := .ty "bool") (u := .type "bool") (by rfl) T.n_bool (by decide +kernel) rfl) pa_nil))))))) (pss_one (ps_ret (pe_and (pe_callB call_isi (by rfl) T.n_isinstance (by decide +kernel) (pa_cons (pv 0) (pa_cons (pe_bltn (v := .ty "bool") (u := .type "bool") (by rfl) T.n_bool (by decide +kernel) rfl) pa_nil))) (pe_and (pe_callB call_isi (by rfl) T.n_isinstance (by decide +kernel) (pa_cons (pv 1) (pa_cons (pe_bltn (v := .ty "bool") (u := .type "bool") (by rfl) T.n_bool (by decide +kernel) rfl) pa_nil))) (pe_one (pe_cmpR op_eq (pv 0) (pv 1) (nomark _))))))) pss_nil)
      (pss_cons (ps_if (PW.pt (pw_or (pt_val (pe_callB call_isi (by rfl) T.n_isinstance (by decide +kernel) (pa_cons (pv 0) (pa_cons (pe_bltn (v := .ty "int") (u := .type "int") (by rfl) T.n_int (by decide +kernel) rfl) pa_nil)))) (pw_or1 (pt_val (pe_callB call_isi (by rfl) T.n_isinstance (by decide +kernel) (pa_cons (pv 1) (pa_cons (pe_bltn (v := .ty "int") (u := .type "int") (by rfl) T.n_int (by decide +kernel) rfl) pa_nil))))))) (pss_one (ps_ret (pe_and (pe_callB call_isi (by rfl) T.n_isinstance (by decide +kernel) (pa_cons (pv 0) (pa_cons (pe_bltn (v := .ty "int") (u := .type "int") (by rfl) T.n_int (by decide +kernel) rfl) pa_nil))) (pe_and (pe_callB call_isi (by rfl) T.n_isinstance (by decide +kernel) (pa_cons (pv 1) (pa_cons (pe_bltn (v := .ty "int") (u := .type "int") (by rfl) T.n_int (by decide +kernel) rfl) pa_nil))) (pe_one (pe_cmpR op_eq (pv 0) (pv 1) (nomark _))))))) pss_nil)
      (pss_cons (ps_if (PW.pt (pw_or (pt_val (pe_callB call_isi (by rfl) T.n_isinstance (by decide +kernel) (pa_cons (pv 0) (pa_cons (pe_bltn (v := .ty "str") (u := .type "str") (by rfl) T.n_str (by decide +kernel) rfl) pa_nil)))) (pw_or1 (pt_val (pe_callB call_isi (by rfl) T.n_isinstance (by decide +kernel) (pa_cons (pv 1) (pa_cons (pe_bltn (v := .ty "str") (u := .type "str") (by rfl) T.n_str (by decide +kernel) rfl) pa_nil))))))) (pss_one (ps_ret (pe_and (pe_callB call_isi (by rfl) T.n_isinstance (by decide +kernel) (pa_cons (pv 0) (pa_cons (pe_bltn (v := .ty "str") (u := .type "str") (by rfl) T.n_str (by decide +kernel) rfl) pa_nil))) (pe_and (pe_callB call_isi (by rfl) T.n_isinstance (by decide +kernel) (pa_cons (pv 1) (pa_cons (pe_bltn (v := .ty "str") (u := .type "str") (by rfl) T.n_str (by decide +kernel) rfl) pa_nil))) (pe_one (pe_cmpR op_eq (pv 0) (pv 1) (nomark _))))))) pss_nil)
      (pss_cons (ps_set (i := 2) sc__law_same.nd rfl (.inl rfl) (pe_and (pe_callB call_isi (by rfl) T.n_isinstance (by decide +kernel) (pa_cons (pv 0) (pa_cons (pe_bltn (v := .ty "list") (u := .type "list") (by rfl) T.n_list (by decide +kernel) rfl) pa_nil))) (pe_one (pe_callB call_isi (by rfl) T.n_isinstance (by decide +kernel) (pa_cons (pv 1) (pa_cons (pe_bltn (v := .ty "list") (u := .type "list") (by rfl) T.n_list (by decide +kernel) rfl) pa_nil))))))
      (pss_cons (ps_if (PW.pt (pw_and (pt_not (pt_val (pv 2))) (pw_and1 (pt_not (PW.pt (pw_and (pt_val (pe_callB call_isi (by rfl) T.n_isinstance (by decide +kernel) (pa_cons (pv 0) (pa_cons (pe_bltn (v := .ty "tuple") (u := .type "tuple") (by rfl) T.n_tuple (by decide +kernel) rfl) pa_nil)))) (pw_and1 (pt_val (pe_callB call_isi (by rfl) T.n_isinstance (by decide +kernel) (pa_cons (pv 1) (pa_cons (pe_bltn (v := .ty "tuple") (u := .type "tuple") (by rfl) T.n_tuple (by decide +kernel) rfl) pa_nil))))))))))) (pss_one (ps_ret (pe_and (pe_cmpR op_isN (pv 0) pe_non (nomark _)) (pe_one (pe_cmpR op_isN (pv 1) pe_non (nomark _)))))) pss_nil)
      (pss_one ps_never)))))), ?_⟩
    have cmp : ∀ (σ : L2.St) (H1 : Hp), σ[0]? = some (some x) → σ[1]? = some (some y) → scal x y = true → Ev (tOp rEq (tVar 0) (tVar 1)) σ H1 (.bl (decide (x = y))) := fun σ H1 e0 e1 hs => ev_op (ev_var e0) (ev_var e1) (rv_eq hs)
    refine q_when (et_or (et_B (ev_isi (vx _ _ rfl) kx bx)) (fun _ => et_B (ev_isi (vy _ _ rfl) ky by_))) (fun hb H1 e1 => ?_) (fun hb H1 e1 => ?_)
    · refine s_ret (v := .bl (decide (x = y))) (ev_is (ev_andV (ev_isi (vx _ _ rfl) kx bx) (fun h1 => ev_andV (b := decide (x = y)) (ev_isi (vy _ _ rfl) ky by_) (fun h2 => cmp _ _ rfl rfl (scal_flat hx hy (.inl ⟨h1, h2⟩))))) ?_) (fun H2 e2 => q H2 (e1.trans e2))
      cases h1 : isBl x with
      | true =>
        cases h2 : isBl y with
        | true => rfl
        | false => rw [decide_eq_false (ne_bl h1 h2)]; rfl
      | false =>
        rw [h1] at hb
        have h2 : isBl y = true := hb
        rw [decide_eq_false (ne_bl h2 h1).symm]
        rfl
    · have nb : isBl x = false ∧ isBl y = false := by simpa using hb
      rw [nb.1] at ix
      rw [nb.2] at iy
      refine q_when (et_or (et_B (ev_isi (vx _ _ rfl) kx ix)) (fun _ => et_B (ev_isi (vy _ _ rfl) ky iy))) (fun hi H2 e2 => ?_) (fun hi H2 e2 => ?_)
      · refine s_ret (v := .bl (decide (x = y))) (ev_is (ev_andV (ev_isi (vx _ _ rfl) kx ix) (fun h1 => ev_andV (b := decide (x = y)) (ev_isi (vy _ _ rfl) ky iy) (fun h2 => cmp _ _ rfl rfl (scal_flat hx hy (.inr (.inl ⟨h1, h2⟩)))))) ?_) (fun H3 e3 => q H3 ((e1.trans e2).trans e3))
        cases x <;> cases y <;> simp_all [isIn, isBl]
      · have ni : isIn x = false ∧ isIn y = false := by simpa using hi
        refine q_when (et_or (et_B (ev_isi (vx _ _ rfl) kx sx)) (fun _ => et_B (ev_isi (vy _ _ rfl) ky sy))) (fun hs H3 e3 => ?_) (fun hs H3 e3 => ?_)
        · refine s_ret (v := .bl (decide (x = y))) (ev_is (ev_andV (ev_isi (vx _ _ rfl) kx sx) (fun h1 => ev_andV (b := decide (x = y)) (ev_isi (vy _ _ rfl) ky sy) (fun h2 => cmp _ _ rfl rfl (scal_flat hx hy (.inr (.inr ⟨h1, h2⟩)))))) ?_) (fun H4 e4 => q H4 (((e1.trans e2).trans e3).trans e4))
          cases x <;> cases y <;> simp_all [isSt, isBl]
        · have ns : isSt x = false ∧ isSt y = false := by simpa using hs
          have xn : x = .non := non_of hx nb.1 ni.1 ns.1
          have yn : y = .non := non_of hy nb.2 ni.2 ns.2
          refine q_asg (v := .bl false) (ev_is (ev_andV (b := false) (ev_isi (vx _ _ rfl) kx lx) (fun _ => ev_isi (vy _ _ rfl) ky ly)) rfl) (fun H4 e4 => ?_)
          refine q_when (b := true) (et_is (et_and (et_not (et_B (ev_var rfl))) (fun _ => et_not (et_and (b := false) (et_B (ev_isi (vx _ _ rfl) kx ux)) (fun _ => et_B (ev_isi (vy _ _ rfl) ky uy))))) rfl) (fun _ H5 e5 => ?_) (fun hf => by cases hf)
          refine s_ret (v := .bl true) (ev_is (ev_andV (a := true) (b := true) (ev_op (vx _ _ rfl) ev_c (fun H6 _ Q' q' => ⟨rfl, ?_⟩)) (fun _ => ev_op (vy _ _ rfl) ev_c (fun H6 _ Q' q' => ⟨rfl, ?_⟩))) rfl) (fun H6 e6 => ?_)
          · rw [xn]
            exact q' H6 (Ex.refl H6)
          · rw [yn]
            exact q' H6 (Ex.refl H6)
          · have z := q H6 (((((e1.trans e2).trans e3).trans e4).trans e5).trans e6)
            rw [xn, yn] at z
            exact z
--@COLD
/-! ### texts -/
/-- a text of at most n signs, each below 128 -/
def Txt8 (n : Nat) (z : Str) : Prop := z.cps.size ≤ n ∧ ∀ c ∈ z.cps.toList, c < 128
theorem Txt8.app {n m : Nat} {x y : Str} (a : Txt8 n x) (b : Txt8 m y) : Txt8 (n + m) (x ++ y) := by
  have e : (x ++ y).cps = x.cps ++ y.cps := rfl
  refine ⟨?_, fun c hc => ?_⟩
  · rw [e, Array.size_append]
    have h1 := a.1
    have h2 := b.1
    omega
  · rw [e, Array.toList_append] at hc
    rcases List.mem_append.mp hc with h | h
    · exact a.2 c h
    · exact b.2 c h
theorem Txt8.mono {n m : Nat} {x : Str} (a : Txt8 n x) (h : n ≤ m) : Txt8 m x := ⟨Nat.le_trans a.1 h, a.2⟩
theorem Txt8.cut {n : Nat} {x : Str} (a : Txt8 n x) (lo hi : Option Int) : Txt8 n (cutS x lo hi) := by
  have e : (cutS x lo hi).cps.toList = (x.cps.toList.drop (HT.sIx x.length 0 lo)).take (HT.sIx x.length x.length hi - HT.sIx x.length 0 lo) := rfl
  refine ⟨?_, fun c hc => ?_⟩
  · rw [← Array.length_toList, e]
    have h1 := List.length_take_le (HT.sIx x.length x.length hi - HT.sIx x.length 0 lo) (x.cps.toList.drop (HT.sIx x.length 0 lo))
    have h2 := List.length_drop (i := HT.sIx x.length 0 lo) (l := x.cps.toList)
    have h3 : x.cps.toList.length ≤ n := by
      rw [Array.length_toList]
      exact a.1
    have h4 : ((x.cps.toList.drop (HT.sIx x.length 0 lo)).take (HT.sIx x.length x.length hi - HT.sIx x.length 0 lo)).length ≤ (x.cps.toList.drop (HT.sIx x.length 0 lo)).length := List.length_take_le' ..
    omega
  · rw [e] at hc
    exact a.2 c (List.mem_of_mem_drop (List.mem_of_mem_take hc))
theorem Txt8.sign {z : Str} {i c : Nat} (h : z.cps[i]? = some c) (a : ∀ c ∈ z.cps.toList, c < 128) : Txt8 1 ⟨#[c]⟩ := by
  refine ⟨Nat.le_refl _, fun d hd => ?_⟩
  have e : d = c := by simpa using hd
  rw [e]
  refine a c ?_
  rw [← Array.getElem?_toList] at h
  exact List.mem_of_getElem? h
theorem line_of {n : Nat} (h : n ≤ 1000) : n ≤ sizeLine := Nat.le_of_lt (small1000 h)
/-- an item of a written text -/
theorem item_of {z : Str} {r n : Int} (h0 : 0 ≤ r) (h : r < n) (hn : (z.cps.size : Int) = n) (ha : ∀ c ∈ z.cps.toList, c < 128) : ∃ c, z.cps[r.toNat]? = some c ∧ r < z.length ∧ Txt8 1 ⟨#[c]⟩ := by
  have hl : r.toNat < z.cps.size := by omega
  have e : z.cps[r.toNat]? = some z.cps[r.toNat] := Array.getElem?_eq_getElem hl
  exact ⟨_, e, by show r < (z.cps.size : Int); omega, Txt8.sign e ha⟩
/-! ### names and literals: the mathematics -/
def ltr (c : Nat) : Bool := decide (c ∈ ("abcdefghijklmnopqrstuvwxyz" : Str).cps.toList)
def dig (c : Nat) : Bool := decide (c ∈ ("0123456789" : Str).cps.toList)
def lod (c : Nat) : Bool := decide (c ∈ ("abcdefghijklmnopqrstuvwxyz0123456789" : Str).cps.toList)
theorem lod_eq (c : Nat) : lod c = (ltr c || dig c) := by
  have e : ("abcdefghijklmnopqrstuvwxyz0123456789" : Str).cps.toList = ("abcdefghijklmnopqrstuvwxyz" : Str).cps.toList ++ ("0123456789" : Str).cps.toList := by decide +kernel
  unfold lod ltr dig
  rw [e, ← Bool.decide_or]
  exact decide_eq_decide.mpr List.mem_append
/-- is it a name -/
def nameL (l : List Nat) : Bool := decide (1 ≤ l.length) && (decide (l.length ≤ 8) && ((l.head?.any ltr) && l.all lod))
def isName (z : Str) : Bool := nameL z.cps.toList
/-- begins it with a minus -/
def dashL (l : List Nat) : Bool := l.head? == some 45
def dash (z : Str) : Bool := dashL z.cps.toList
def Sl (l : List Nat) : Str := ⟨l.toArray⟩
/-- without its minus -/
def bare (z : Str) : Str := if dash z = true then Sl (z.cps.toList.drop 1) else z
theorem str_eq {x y : Str} (h : x.cps.toList = y.cps.toList) : x = y := by
  cases x with
  | mk a =>
    cases y with
    | mk b => rw [show a = b from Array.toList_inj.mp h]
theorem cut_1 (z : Str) : (cutS z none (some 1)).cps.toList = z.cps.toList.take 1 := by
  have e : HT.sIx z.length z.length (some 1) = min 1 z.length := HT.sIx_nat z.length z.length 1
  have l : z.cps.toList.length = z.length := Array.length_toList
  show ((z.cps.toList.drop (HT.sIx z.length 0 none)).take (HT.sIx z.length z.length (some 1) - HT.sIx z.length 0 none)).toArray.toList = _
  rw [e, HT.sIx_none, List.drop_zero, Nat.sub_zero]
  show List.take (min 1 z.length) z.cps.toList = _
  rw [← l, ← List.take_take, List.take_length]
theorem cut_from1 (z : Str) : (cutS z (some 1) none).cps.toList = z.cps.toList.drop 1 := by
  have e : HT.sIx z.length 0 (some 1) = min 1 z.length := HT.sIx_nat z.length 0 1
  have l : z.cps.toList.length = z.length := Array.length_toList
  show ((z.cps.toList.drop (HT.sIx z.length 0 (some 1))).take (HT.sIx z.length z.length none - HT.sIx z.length 0 (some 1))).toArray.toList = _
  rw [e, HT.sIx_none]
  show List.take (z.length - min 1 z.length) (z.cps.toList.drop (min 1 z.length)) = _
  rw [← l]
  cases z.cps.toList with
  | nil => rfl
  | cons c r =>
    rw [show min 1 (c :: r).length = 1 by rw [List.length_cons]; omega]
    show List.take ((c :: r).length - 1) r = r
    rw [List.length_cons, Nat.add_sub_cancel]
    exact List.take_length
theorem dash_cut (z : Str) : decide (V.str (cutS z none (some 1)) = V.str "-") = dash z := by
  unfold dash dashL
  by_cases h : z.cps.toList.head? = some 45
  · rw [show (z.cps.toList.head? == some 45) = true by rw [h]; rfl]
    refine decide_eq_true (congrArg V.str (str_eq ?_))
    rw [cut_1]
    cases e : z.cps.toList with
    | nil => rw [e] at h; cases h
    | cons c r =>
      rw [e] at h
      rw [show c = 45 from Option.some.inj h]
      rfl
  · rw [show (z.cps.toList.head? == some 45) = false from beq_eq_false_iff_ne.mpr h]
    refine decide_eq_false fun q => h ?_
    have q2 := congrArg (fun y : Str => y.cps.toList) (V.str.inj q)
    have q3 : z.cps.toList.take 1 = [45] := by
      rw [← cut_1]
      exact q2
    cases e : z.cps.toList with
    | nil => rw [e] at q3; cases q3
    | cons c r =>
      rw [e] at q3
      exact congrArg some (List.cons.inj q3).1
theorem bare_cut {z : Str} (h : dash z = true) : cutS z (some 1) none = bare z := by
  unfold bare
  rw [if_pos h]
  refine str_eq ?_
  rw [cut_from1]
  rfl
theorem bare_no {z : Str} (h : dash z = false) : bare z = z := by
  unfold bare
  rw [h, if_neg Bool.false_ne_true]
theorem bare_rp (z : Str) : Txt.removeprefix z "-" = bare z := by
  rw [PySem.StrLaws.removeprefix_eq, PySem.StrLaws.subAt_eq]
  have l : z.cps.toList.length = z.length := Array.length_toList
  have one : ("-" : Str).length = 1 := by decide
  have cp : ("-" : Str).cps.toList = [45] := by decide
  rw [one, cp, List.drop_zero]
  unfold bare dash dashL
  cases e : z.cps.toList with
  | nil =>
    rw [if_neg (by simp), if_neg (by simp)]
  | cons c r =>
    have hl : z.length = r.length + 1 := by
      rw [← l, e, List.length_cons]
    by_cases h : c = 45
    · subst h
      rw [if_pos (by rw [hl]; simp), if_pos (by rfl)]
      refine str_eq ?_
      show List.take (z.length - 1) (List.drop 1 (45 :: r)) = List.drop 1 (45 :: r)
      rw [hl, Nat.add_sub_cancel]
      exact List.take_length
    · rw [if_neg (by simp [h]), if_neg (by simp [h])]
theorem bare_len (z : Str) : (bare z).cps.size ≤ z.cps.size := by
  unfold bare
  by_cases h : dash z = true
  · rw [if_pos h]
    show (z.cps.toList.drop 1).toArray.size ≤ _
    rw [List.size_toArray, List.length_drop, Array.length_toList]
    omega
  · rw [if_neg h]
    exact Nat.le_refl _
theorem bare_same (z : Str) : decide (bare z = z) = !dash z := by
  by_cases hd : dash z = true
  · rw [hd]
    refine decide_eq_false fun q => ?_
    have q2 := congrArg (fun y : Str => y.cps.toList.length) q
    unfold bare at q2
    rw [if_pos hd] at q2
    have q3 : (z.cps.toList.drop 1).length = z.cps.toList.length := q2
    rw [List.length_drop] at q3
    unfold dash dashL at hd
    cases e : z.cps.toList with
    | nil => rw [e] at hd; cases hd
    | cons c r => rw [e, List.length_cons] at q3; omega
  · have hd2 : dash z = false := by simpa using hd
    rw [bare_no hd2, hd2]
    exact decide_eq_true rfl
def isLit (z : Str) : Bool := isName (bare z)
/-- the other sign -/
def flip (z : Str) : Str := if dash z = true then bare z else "-" ++ z
/-! ### further answers -/
open Evl in
theorem rv_inS {H : Hp} {c : Nat} {z : Str} : RV (fun x y H Q => ∃ (c : Nat) (z : Str), x = .str ⟨#[c]⟩ ∧ y = .str z ∧ Q (.bl (decide (c ∈ z.cps.toList))) H) (.str ⟨#[c]⟩) (.str z) H (.bl (decide (c ∈ z.cps.toList))) := fun H1 _ _ q => ⟨c, z, rfl, rfl, q H1 (Ex.refl H1)⟩
open Evl in
theorem rv_notInS {H : Hp} {c : Nat} {z : Str} : RV (fun x y H Q => ∃ (c : Nat) (z : Str), x = .str ⟨#[c]⟩ ∧ y = .str z ∧ Q (.bl (!decide (c ∈ z.cps.toList))) H) (.str ⟨#[c]⟩) (.str z) H (.bl (!decide (c ∈ z.cps.toList))) := fun H1 _ _ q => ⟨c, z, rfl, rfl, q H1 (Ex.refl H1)⟩
open Evl in
theorem rv_itemS {H : Hp} {c : Nat} {z : Str} {i : Nat} (h : z.cps[i]? = some c) (hz : z.cps.size ≤ 100000) : RV (fun x y H Q => ∃ z i c, x = .str z ∧ y = .int i ∧ 0 ≤ i ∧ i < 2 ^ 63 ∧ i < z.length ∧ z.cps[i.toNat]? = some c ∧ Q (.str ⟨#[c]⟩) H) (.str z) (.int (i : Int)) H (.str ⟨#[c]⟩) := fun H1 _ _ q => by
  have hl := (Array.getElem?_eq_some_iff.mp h).1
  have e : (z.length : Nat) = z.cps.size := rfl
  exact ⟨z, i, c, rfl, rfl, by omega, by omega, by omega, by rw [Int.toNat_natCast]; exact h, q H1 (Ex.refl H1)⟩
open Evl in
theorem ev_lenS {σ : L2.St} {H : Hp} {ta : TE} {z : Str} (h : Ev ta σ H (.str z)) (hz : z.cps.size ≤ 100000) : Ev (tCB (fun xs H Q => ∃ z, xs = [V.str z] ∧ z.length ≤ sizeLine ∧ Q (.int z.length) H) (tCons ta tNil)) σ H (.int (z.cps.size : Int)) :=
  ev_cb (ea_cons h ea_nil) fun H1 _ Q q => ⟨z, rfl, sz_of hz, q H1 (Ex.refl H1)⟩
open Evl in
theorem ev_chain {σ : L2.St} {H : Hp} {r r' : R2} {ta tb tc : TE} {x y z : V} {a b : Bool} (ha : Ev ta σ H x) (hb : Ev tb σ H y) (hr : RV r x y H (.bl a)) (h2 : a = true → Ev tc σ H z) (h3 : a = true → RV r' y z H (.bl b)) : Ev (tChain r r' ta tb tc) σ H (.bl (a && b)) := fun H1 e Q q =>
  ha H1 e _ fun H2 e2 => hb H2 (e.trans e2) _ fun H3 e3 => hr H3 ((e.trans e2).trans e3) _ fun H4 e4 => ⟨a, rfl, by
    cases a with
    | true =>
      refine iteT ?_
      exact h2 rfl H4 (((e.trans e2).trans e3).trans e4) _ fun H5 e5 => h3 rfl H5 ((((e.trans e2).trans e3).trans e4).trans e5) Q fun H6 e6 => q H6 ((((e2.trans e3).trans e4).trans e5).trans e6)
    | false =>
      refine iteF ?_
      exact q H4 ((e2.trans e3).trans e4)⟩
open Evl in
theorem ev_all {σ : L2.St} {H : Hp} {tl : TE} {bs : List Bool} (h : EvL tl σ H (bs.map V.bl)) : Ev (tCB (rAll K) (tCons tl tNil)) σ H (.bl (bs.all id)) := fun H1 e Q q =>
  h H1 e _ fun p H2 _ e2 hp => ⟨p, bs, rfl, sq_of hp, q H2 e2⟩
open Evl in
/-- [e for c in a text] -/
theorem el_lcS {σ : L2.St} {H : Hp} {z : Str} {tl te : TE} {j : Nat} {vs : List Nat} (f : Nat → V) (h : Ev tl σ H (.str z)) (hz : z.cps.size ≤ 40000) (hw : ∀ x, wipe ((wipe σ vs).set j (some x)) vs = wipe σ vs)
    (he : ∀ (c : Nat) H1, Ex H H1 → c ∈ z.cps.toList → Ev te ((wipe σ vs).set j (some (.str ⟨#[c]⟩))) H1 (f c)) : EvL (tLc (iStr tl) (gName j) tYes te vs) σ H (z.cps.toList.map f) := fun H0 e Q q => h H0 e _ fun H1 e1 => ⟨z, rfl, fun Dl hD => by
  refine lc_it walk_str (fun i H' => H1 Dl = none ∧ Ex H1 H' ∧ H' Dl = some (.lst ((z.cps.toList.take i).map f))) ⟨hD, Ex.new hD, upd_same⟩ (fun _ _ _ _ => trivial) ?_ ?_
  · rintro i x H2 H3 hi ⟨p1, p2, p3⟩ ⟨rfl, c, hc, rfl⟩
    have hc2 : z.cps.toList[i]? = some c := by
      rw [Array.getElem?_toList]
      exact hc
    have hm : c ∈ z.cps.toList := List.mem_of_getElem? hc2
    refine ⟨hw _, ?_⟩
    unfold tYes
    dsimp only
    rw [if_pos rfl]
    refine he c H1 (e.trans e1) hm H3 p2 _ fun H4 e4 => ⟨_, e4 _ _ p3, ?_, p1, Ex.mut (p2.trans e4) p1, ?_⟩
    · rw [List.length_map]
      exact sz_lt (by have := List.length_take_le i z.cps.toList; omega)
    · rw [List.take_add_one, hc2, List.map_append]
      exact upd_same
  · rintro H2 ⟨p1, p2, p3⟩
    have ef : z.cps.toList.take z.cps.size = z.cps.toList := by
      rw [← Array.length_toList]
      exact List.take_length
    rw [ef] at p3
    exact q Dl H2 (fresh_back e1 p1) (e1.trans p2) p3⟩
/-! ### is_name, is_literal and what the law says of them -/
def spIsName : Sp := fun vs H Q _ => ∃ z : Str, vs = [.str z] ∧ z.cps.size ≤ 1000 ∧ ∀ H', Evl.Ex H H' → Q (.bl (isName z)) H'
open Evl in
theorem ok_is_name (T : Txt P K mg) : FnOk P w K mg base CX0 1 T.f_is_name T.d_is_name ["text"] spIsName := by
  refine T.F_is_name.ok sc_is_name (fun vs H Q E h => ?_) (fun cdv A outer s H vs Q E hr h => ?_)
  · obtain ⟨z, rfl, _⟩ := h
    rfl
  · obtain ⟨z, rfl, hz, q⟩ := h
    have vz : ∀ (σ : L2.St) (H : Hp), σ[0]? = some (some (V.str z)) → Ev (tVar 0) σ H (.str z) := fun σ H e => ev_var e
    refine ⟨_, (pss_cons (ps_if (pt_not (pt_chain op_le op_le pe_int (pe_callB call_len_str (by rfl) T.n_len PySem.boot_len (pa_cons (pv 0) pa_nil)) (pe_glob (v := .int 8) rfl T.v_LONGEST_NAME ⟨_, rfl⟩))) (pss_one (ps_ret pe_bl)) pss_nil)
      (pss_one (ps_ret (pe_and (pe_cmpR op_in_sign (pe_item_str (pv 0) pe_int (fun _ _ => rfl)) (pe_glob (v := .str "abcdefghijklmnopqrstuvwxyz") rfl T.v_LETTERS ⟨_, rfl⟩) (by rfl)) (pe_one (pe_callB (cr_all rfl) (by rfl) T.n_all (by decide +kernel) (pa_cons (pe_lc (own := [("sign", 1)]) (g := gName 1) (by rfl) sc_is_name.nd (pi_str (pv 0)) (blkOk_by (own := [("sign", 1)]) (N := N_is_name) (sc := defScope s_is_name) (by decide +kernel)) (fun _ _ _ _ _ => pg_name (i := 1) sc_is_name.nd rfl (Or.inl rfl)) (fun _ _ _ _ _ => pts_nil) (fun _ _ _ _ _ => (pe_cmpR op_in_sign (pv 1) (pe_glob (v := .str "abcdefghijklmnopqrstuvwxyz0123456789") rfl T.v_LETTERS_AND_DIGITS ⟨_, rfl⟩) (by rfl)))) pa_nil))))))), ?_⟩
    have l : z.cps.toList.length = z.cps.size := Array.length_toList
    refine q_when (et_not (et_test (ev_chain (a := decide (1 ≤ z.cps.size)) (b := decide (z.cps.size ≤ 8)) ev_c (ev_lenS (vz _ _ rfl) (by omega)) (fun H1 _ Q q => ⟨1, _, rfl, rfl, ?_⟩) (fun _ => ev_c) (fun _ H1 _ Q q => ⟨_, 8, rfl, rfl, ?_⟩)))) (fun hb H1 e1 => ?_) (fun hb H1 e1 => ?_)
    · have e : decide ((1 : Int) ≤ (z.cps.size : Int)) = decide (1 ≤ z.cps.size) := decide_eq_decide.mpr (by omega)
      show Q (.bl (decide ((1 : Int) ≤ (z.cps.size : Int)))) H1
      rw [e]
      exact q H1 (Ex.refl H1)
    · have e : decide ((z.cps.size : Int) ≤ 8) = decide (z.cps.size ≤ 8) := decide_eq_decide.mpr (by omega)
      show Q (.bl (decide ((z.cps.size : Int) ≤ 8))) H1
      rw [e]
      exact q H1 (Ex.refl H1)
    · refine s_ret (v := .bl (isName z)) (ev_is ev_c ?_) (fun H2 e2 => q H2 (e1.trans e2))
      have hb2 : (decide (1 ≤ z.cps.size) && decide (z.cps.size ≤ 8)) = false := by
        rw [Bool.not_eq_true'] at hb
        exact hb
      unfold isName nameL
      rw [← Bool.and_assoc, l, hb2]
      rfl
    · have hb2 : (decide (1 ≤ z.cps.size) && decide (z.cps.size ≤ 8)) = true := by
        rw [Bool.not_eq_false'] at hb
        exact hb
      rw [Bool.and_eq_true] at hb2
      have h1 : 1 ≤ z.cps.size := of_decide_eq_true hb2.1
      obtain ⟨c, r, hc⟩ : ∃ c r, z.cps.toList = c :: r := by
        cases e : z.cps.toList with
        | nil => rw [e] at l; simp at l; omega
        | cons c r => exact ⟨c, r, rfl⟩
      have c0 : z.cps[0]? = some c := by
        rw [← Array.getElem?_toList, hc]
        rfl
      refine s_ret (v := .bl (isName z)) (ev_is (ev_andV (a := ltr c) (b := z.cps.toList.all lod) (ev_op (ev_op (vz _ _ rfl) ev_c (rv_itemS (i := 0) c0 (by omega))) ev_c rv_inS) (fun _ => ev_is (ev_all (bs := z.cps.toList.map lod) ?_) ?_)) ?_) (fun H2 e2 => q H2 (e1.trans e2))
      · rw [List.map_map]
        exact el_lcS (f := fun c => V.bl (lod c)) (vz _ _ rfl) (by omega) (fun _ => rfl) (fun c H2 e2 hm => ev_op (ev_var rfl) ev_c rv_inS)
      · rw [List.all_map]
        rfl
      · unfold isName nameL
        rw [l, hb2.1, hb2.2, hc]
        rfl
/-! ### literals -/
open Evl in
theorem rv_rp {H : Hp} {te : TE} {σ : L2.St} {z : Str} (h : Ev te σ H (.str z)) (hz : z.cps.size ≤ 1000) : Ev (tBM K "str" (fun x xs H Q => ∃ a b, x = .str a ∧ xs = [.str b] ∧ a.length ≤ sizeLine ∧ Q (.str (Txt.removeprefix a b)) H) te (tCons (tC (.str "-")) tNil)) σ H (.str (bare z)) := fun H1 e Q q =>
  h H1 e _ fun H2 e2 => ⟨rfl, z, "-", rfl, rfl, sz_of (by show z.cps.size ≤ _; omega), by rw [bare_rp]; exact q H2 e2⟩
def spIsLit : Sp := fun vs H Q _ => ∃ z : Str, vs = [.str z] ∧ z.cps.size ≤ 1000 ∧ ∀ H', Evl.Ex H H' → Q (.bl (isLit z)) H'
open Evl in
theorem ok_is_literal (T : Txt P K mg) : FnOk P w K mg base CX0 2 T.f_is_literal T.d_is_literal ["text"] spIsLit := by
  refine T.F_is_literal.ok sc_is_literal (fun vs H Q E h => ?_) (fun cdv A outer s H vs Q E hr h => ?_)
  · obtain ⟨z, rfl, _⟩ := h
    rfl
  · obtain ⟨z, rfl, hz, q⟩ := h
    refine ⟨_, (pss_one (ps_ret (pe_call (ok_is_name T) (hr.mono (by decide)) rfl T.g_is_name T.F_is_name.kp T.b_is_name .nil pass0 (pa_cons (pe_bm PySem.F.plainAttrs_str PySem.F.slot_str_removeprefix PySem.F.type_str_removeprefix mt_removeprefix (pv 0) (pa_cons pe_str pa_nil)) pa_nil)))), ?_⟩
    refine s_ret (ev_call (z := .bl (isLit z)) (ea_cons (rv_rp (ev_var rfl) hz) ea_nil) (fun H1 e1 Q' q' E' => ⟨bare z, rfl, Nat.le_trans (bare_len z) hz, fun H2 e2 => q' H2 e2⟩)) (fun H1 e1 => q H1 e1)
theorem flip_dash {z : Str} (h : dash z = true) : flip z = bare z := if_pos h
theorem flip_no {z : Str} (h : dash z = false) : flip z = "-" ++ z := by
  unfold flip
  rw [h, if_neg Bool.false_ne_true]
/-- a def that takes a literal: g of it, or BadLiteral with the text -/
def spLit (C : Addr) (g : Str → V) : Sp := fun vs H Q E => ∃ z : Str, vs = [.str z] ∧ z.cps.size ≤ 99 ∧ (∀ c ∈ z.cps.toList, c < 128) ∧ (isLit z = true → ∀ H', Evl.Ex H H' → Q (g z) H') ∧
  (isLit z = false → ∀ H' d, Evl.Ex H H' → H' d = some (.xd [("text", .str z)]) → E (.ref C) (some d) H')
theorem repr_le {z : Str} (hz : z.cps.size ≤ 99) (hc : ∀ c ∈ z.cps.toList, c < 128) : (reprText z).length ≤ 1000 := by
  have h := PySem.StrLaws.reprText_len z fun c h => Nat.lt_trans (hc c h) (by decide)
  have h2 : z.length ≤ 99 := hz
  omega
theorem ok_check_literal (T : Txt P K mg) : FnOk P w K mg base (L2N.CX P w) 3 T.f_check_literal T.d_check_literal ["text"] (spLit T.C_BadLiteral fun _ => .non) := by
  refine T.F_check_literal.okN sc_check_literal (fun vs H Q E h => ?_) (fun cdv A outer s H vs Q E hr h => ?_)
  · obtain ⟨z, rfl, _⟩ := h
    rfl
  · obtain ⟨z, rfl, hz, hc, q1, q2⟩ := h
    refine ⟨_, (pss_one (ps_if (pt_not (pt_val (pe_call (ok_is_literal T) (hr.mono (by decide)) rfl T.g_is_literal T.F_is_literal.kp T.b_is_literal .nil pass0 (pa_cons (pv 0) pa_nil)))) (pss_one (L2N.ps_raise rfl (L2N.takes_of rfl rfl rfl rfl) (pmk1 T.E_BadLiteral rfl fld_text T.o_BadLiteral hr (pa_cons (pv 0) pa_nil) rfl (by decide)))) pss_nil)), ?_⟩
    refine ⟨_, rfl, z, rfl, by omega, fun H1 e1 => ⟨_, rfl, ?_⟩⟩
    cases hl : isLit z with
    | true =>
      refine iteF ?_
      exact q1 hl H1 e1
    | false =>
      refine iteT ?_
      refine ⟨_, rfl, _, rfl, fun u hu => ?_, fun d hd => q2 hl _ d (e1.trans (Evl.Ex.new hd)) upd_same⟩
      obtain ⟨t, rfl⟩ := hu
      exact msg_cr fld_text (by decide) (repr_le hz hc)
theorem ok_name_of (T : Txt P K mg) : FnOk P w K mg base (L2N.CX P w) 4 T.f_name_of T.d_name_of ["literal"] (spLit T.C_BadLiteral fun z => .str (bare z)) := by
  refine T.F_name_of.okN sc_name_of (fun vs H Q E h => ?_) (fun cdv A outer s H vs Q E hr h => ?_)
  · obtain ⟨z, rfl, _⟩ := h
    rfl
  · obtain ⟨z, rfl, hz, hc, q1, q2⟩ := h
    refine ⟨_, (pss_cons (ps_expr (pe_call (ok_check_literal T) (hr.mono (by decide)) rfl T.g_check_literal T.F_check_literal.kp T.b_check_literal .nil (L2N.passes_call (L2N.takes_of rfl rfl rfl rfl) (fun _ _ _ _ h => h)) (pa_cons (pv 0) pa_nil)))
      (pss_one (ps_ret (pe_bm PySem.F.plainAttrs_str PySem.F.slot_str_removeprefix PySem.F.type_str_removeprefix mt_removeprefix (pv 0) (pa_cons pe_str pa_nil))))), ?_⟩
    refine ⟨_, rfl, z, rfl, hz, hc, fun hl H1 e1 => ?_, q2⟩
    exact Evl.s_ret (rv_rp (Evl.ev_var rfl) (by omega)) fun H2 e2 => q1 hl H2 (e1.trans e2)
theorem ok_is_positive (T : Txt P K mg) : FnOk P w K mg base (L2N.CX P w) 5 T.f_is_positive T.d_is_positive ["literal"] (spLit T.C_BadLiteral fun z => .bl (!dash z)) := by
  refine T.F_is_positive.okN sc_is_positive (fun vs H Q E h => ?_) (fun cdv A outer s H vs Q E hr h => ?_)
  · obtain ⟨z, rfl, _⟩ := h
    rfl
  · obtain ⟨z, rfl, hz, hc, q1, q2⟩ := h
    refine ⟨_, (pss_one (ps_ret (pe_cmpR op_eq (pe_call (ok_name_of T) (hr.mono (by decide)) rfl T.g_name_of T.F_name_of.kp T.b_name_of .nil (L2N.passes_call (L2N.takes_of rfl rfl rfl rfl) (fun _ _ _ _ h => h)) (pa_cons (pv 0) pa_nil)) (pv 0) (nomark _)))), ?_⟩
    refine ⟨_, rfl, z, rfl, hz, hc, fun hl H1 e1 => ⟨_, rfl, rfl, ?_⟩, q2⟩
    have e : decide (V.str (bare z) = V.str z) = !dash z := by
      rw [← bare_same z]
      exact decide_eq_decide.mpr ⟨fun x => V.str.inj x, fun x => congrArg V.str x⟩
    rw [e]
    exact q1 hl H1 e1
theorem ok_negated (T : Txt P K mg) : FnOk P w K mg base (L2N.CX P w) 6 T.f_negated T.d_negated ["literal"] (spLit T.C_BadLiteral fun z => .str (flip z)) := by
  refine T.F_negated.okN sc_negated (fun vs H Q E h => ?_) (fun cdv A outer s H vs Q E hr h => ?_)
  · obtain ⟨z, rfl, _⟩ := h
    rfl
  · obtain ⟨z, rfl, hz, hc, q1, q2⟩ := h
    refine ⟨_, (pss_cons (ps_if (pt_val (pe_call (ok_is_positive T) (hr.mono (by decide)) rfl T.g_is_positive T.F_is_positive.kp T.b_is_positive .nil (L2N.passes_call (L2N.takes_of rfl rfl rfl rfl) (fun _ _ _ _ h => h)) (pa_cons (pv 0) pa_nil))) (pss_one (ps_ret (pe_joined (.cons pe_str (.cons (pe_fmt (pv 0)) .nil))))) pss_nil)
      (pss_one (ps_ret (pe_call (ok_name_of T) (hr.mono (by decide)) rfl T.g_name_of T.F_name_of.kp T.b_name_of .nil (L2N.passes_call (L2N.takes_of rfl rfl rfl rfl) (fun _ _ _ _ h => h)) (pa_cons (pv 0) pa_nil))))), ?_⟩
    refine ⟨_, rfl, z, rfl, hz, hc, fun hl H1 e1 => ⟨_, rfl, ?_⟩, q2⟩
    cases hd : dash z with
    | true =>
      refine iteF ?_
      refine ⟨_, rfl, z, rfl, hz, hc, fun hl2 H2 e2 => ?_, fun hl2 => by rw [hl] at hl2; cases hl2⟩
      have z3 : Q (.str (flip z)) H2 := q1 hl H2 (e1.trans e2)
      rw [flip_dash hd] at z3
      exact z3
    | false =>
      refine iteT ?_
      have zl : z.length ≤ 99 := hz
      have l1 : (Str.empty ++ ("-" : Str)).length ≤ sizeLine := line_of (by decide)
      have l2 : (Str.empty ++ ("-" : Str) ++ z).length ≤ sizeLine := line_of (Nat.le_trans (app_le (n := 1) (m := 99) (by decide) hz) (by decide))
      refine ⟨"-", rfl, l1, _, rfl, .inl ⟨z, rfl, line_of (by omega), z, rfl, l2, ?_⟩⟩
      have z2 : Q (.str (flip z)) H1 := q1 hl H1 e1
      rw [flip_no hd] at z2
      exact z2
/-! ### the law's own -/
def spPure (g : Str → V) : Sp := fun vs H Q _ => ∃ z : Str, vs = [.str z] ∧ z.cps.size ≤ 99 ∧ ∀ H', Evl.Ex H H' → Q (g z) H'
open Evl in
theorem ev_sl1 {H : Hp} {te : TE} {σ : L2.St} {z : Str} (h : Ev te σ H (.str z)) (hz : z.cps.size ≤ 1000) : Ev (tSl rSlS te tNoPart (tPart (tC (.int 1)))) σ H (.str (cutS z none (some 1))) := fun H1 e Q q =>
  h H1 e _ fun H2 e2 => ⟨1, rfl, z, rfl, sz_of (by show z.cps.size ≤ _; omega), q H2 e2⟩
open Evl in
theorem ev_sl1n {H : Hp} {te : TE} {σ : L2.St} {z : Str} (h : Ev te σ H (.str z)) (hz : z.cps.size ≤ 1000) : Ev (tSl rSlS te (tPart (tC (.int 1))) tNoPart) σ H (.str (cutS z (some 1) none)) := fun H1 e Q q =>
  h H1 e _ fun H2 e2 => ⟨1, rfl, z, rfl, sz_of (by show z.cps.size ≤ _; omega), q H2 e2⟩
open Evl in
theorem ok__law_name (T : Txt P K mg) : FnOk P w K mg base CX0 1 T.f__law_name T.d__law_name ["_law_literal"] (spPure fun z => .str (bare z)) := by
  refine T.F__law_name.ok sc__law_name (fun vs H Q E h => ?_) (fun cdv A outer s H vs Q E hr h => ?_)
  · obtain ⟨z, rfl, _⟩ := h
    rfl
  · obtain ⟨z, rfl, hz, q⟩ := h
    refine ⟨_, (pss_cons (ps_if (pt_cmpR op_eq (pe_slice sl_str (pv 0) po_none (po_some pe_int)) pe_str (nomark _)) (pss_one (ps_ret (pe_slice sl_str (pv 0) (po_some pe_int) po_none))) pss_nil)
      (pss_one (ps_ret (pv 0)))), ?_⟩
    refine q_when (b := dash z) (et_test (ev_is (ev_op (ev_sl1 (ev_var rfl) (by omega)) ev_c (rv_eq rfl)) (by rw [dash_cut]))) (fun hd H1 e1 => ?_) (fun hd H1 e1 => ?_)
    · refine s_ret (ev_is (w := .str (bare z)) (ev_sl1n (ev_var rfl) (by omega)) (by rw [bare_cut hd])) fun H2 e2 => q H2 (e1.trans e2)
    · refine s_ret (ev_is (v := .str z) (w := .str (bare z)) (ev_var rfl) (by rw [bare_no hd])) fun H2 e2 => q H2 (e1.trans e2)
open Evl in
theorem ok__law_flip (T : Txt P K mg) : FnOk P w K mg base CX0 1 T.f__law_flip T.d__law_flip ["_law_literal"] (spPure fun z => .str (flip z)) := by
  refine T.F__law_flip.ok sc__law_flip (fun vs H Q E h => ?_) (fun cdv A outer s H vs Q E hr h => ?_)
  · obtain ⟨z, rfl, _⟩ := h
    rfl
  · obtain ⟨z, rfl, hz, q⟩ := h
    refine ⟨_, (pss_cons (ps_if (pt_cmpR op_eq (pe_slice sl_str (pv 0) po_none (po_some pe_int)) pe_str (nomark _)) (pss_one (ps_ret (pe_slice sl_str (pv 0) (po_some pe_int) po_none))) pss_nil)
      (pss_one (ps_ret (pe_op op_add_str pe_str (pv 0))))), ?_⟩
    refine q_when (b := dash z) (et_test (ev_is (ev_op (ev_sl1 (ev_var rfl) (by omega)) ev_c (rv_eq rfl)) (by rw [dash_cut]))) (fun hd H1 e1 => ?_) (fun hd H1 e1 => ?_)
    · refine s_ret (ev_is (w := .str (flip z)) (ev_sl1n (ev_var rfl) (by omega)) ?_) fun H2 e2 => q H2 (e1.trans e2)
      rw [bare_cut hd, flip_dash hd]
    · refine s_ret (ev_is (v := .str ("-" ++ z)) (w := .str (flip z)) (ev_op (y := .str z) ev_c (ev_var rfl) (fun H2 _ Q q => ⟨"-", z, rfl, rfl, ?_, q H2 (Ex.refl H2)⟩)) ?_) fun H2 e2 => q H2 (e1.trans e2)
      · have h1 : ("-" : Str).length = 1 := by decide
        have h2 : z.length = z.cps.size := rfl
        exact line_of (by omega)
      · rw [flip_no hd]
/-! ### texts in order -/
def leS (a b : Str) : Prop := a.cps.toList ≤ b.cps.toList
theorem leS_of {a b : Str} (h : ltCps b.cps.toList a.cps.toList = false) : leS a b := by
  rw [ltCps_eq] at h
  exact of_decide_eq_false h
theorem leS_trans {a b c : Str} (x : leS a b) (y : leS b c) : leS a c := List.le_trans x y
theorem leS_anti {a b : Str} (x : leS a b) (y : leS b a) : a = b := str_eq (List.le_antisymm x y)
theorem pw_rising : ∀ (p : Str) (l : List Str), risingS p l = true → (p :: l).Pairwise leS
  | p, [], _ => List.pairwise_singleton _ _
  | p, x :: r, h => by
    have h2 : (!ltCps x.cps.toList p.cps.toList && risingS x r) = true := h
    rw [Bool.and_eq_true, Bool.not_eq_true'] at h2
    have t := pw_rising x r h2.2
    refine List.pairwise_cons.mpr ⟨fun y hy => ?_, t⟩
    have px := leS_of h2.1
    rcases List.mem_cons.mp hy with e | hy
    · rw [e]; exact px
    · exact leS_trans px ((List.pairwise_cons.mp t).1 y hy)
theorem pw_sorted : ∀ (l : List Str), sortedS l = true → l.Pairwise leS
  | [], _ => .nil
  | x :: r, h => pw_rising x r h
/-- in order, one way alone -/
theorem same_order : ∀ {l m : List Str}, l.Pairwise leS → m.Pairwise leS → l.Perm m → l = m
  | [], m, _, _, p => (List.Perm.eq_nil p.symm).symm
  | x :: l, [], _, _, p => absurd p.length_eq (by simp)
  | x :: l, y :: m, a, b, p => by
    obtain ⟨a1, a2⟩ := List.pairwise_cons.mp a
    obtain ⟨b1, b2⟩ := List.pairwise_cons.mp b
    have e : x = y := by
      rcases List.mem_cons.mp (p.mem_iff.mp List.mem_cons_self) with e | hx
      · exact e
      · rcases List.mem_cons.mp (p.mem_iff.mpr List.mem_cons_self) with e | hy
        · exact e.symm
        · exact leS_anti (a1 y hy) (b1 x hx)
    subst e
    rw [same_order a2 b2 ((List.perm_cons _).mp p)]
theorem perm_len_le : ∀ {l m : List Str}, l.Nodup → (∀ x ∈ l, x ∈ m) → l.length ≤ m.length
  | [], m, _, _ => Nat.zero_le _
  | x :: l, m, nd, sub => by
    obtain ⟨n1, n2⟩ := List.nodup_cons.mp nd
    have pe := List.perm_cons_erase (sub x List.mem_cons_self)
    have z := perm_len_le (m := m.erase x) n2 fun y hy => (List.mem_erase_of_ne (fun (e : y = x) => n1 (by rw [← e]; exact hy))).mpr (sub y (List.mem_cons_of_mem _ hy))
    have q := pe.length_eq
    simp only [List.length_cons] at q ⊢
    omega
/-- the names of the texts L, each once, in order -/
structure Ord (L N : List Str) : Prop where
  pw : N.Pairwise leS
  nd : N.Nodup
  mem : ∀ x, x ∈ N ↔ x ∈ L
theorem Ord.uniq {L L' N N' : List Str} (a : Ord L N) (b : Ord L' N') (h : ∀ x, x ∈ L ↔ x ∈ L') : N = N' := by
  have sub : ∀ x, x ∈ N ↔ x ∈ N' := fun x => by rw [a.mem, b.mem, h]
  exact same_order a.pw b.pw (perm_of_sub a.nd (fun x hx => (sub x).mp hx) (perm_len_le b.nd fun x hx => (sub x).mpr hx))
/-- a sorted list's texts, each once -/
def dd : List Str → List Str → List Str
  | acc, [] => acc
  | acc, x :: r => if x ∈ acc then dd acc r else dd (acc ++ [x]) r
theorem dd_spec : ∀ (l acc : List Str), acc.Nodup → (acc ++ l).Pairwise leS → (dd acc l).Pairwise leS ∧ (dd acc l).Nodup ∧ ∀ x, x ∈ dd acc l ↔ x ∈ acc ∨ x ∈ l
  | [], acc, nd, pw => ⟨by rw [List.append_nil] at pw; exact pw, nd, fun x => by simp [dd]⟩
  | y :: r, acc, nd, pw => by
    unfold dd
    by_cases h : y ∈ acc
    · rw [if_pos h]
      have pw2 : (acc ++ r).Pairwise leS := pw.sublist (List.Sublist.append (List.Sublist.refl _) (List.sublist_cons_self _ _))
      obtain ⟨a, b, c⟩ := dd_spec r acc nd pw2
      refine ⟨a, b, fun x => ?_⟩
      rw [c x, List.mem_cons]
      constructor
      · rintro (z | z)
        · exact .inl z
        · exact .inr (.inr z)
      · rintro (z | z | z)
        · exact .inl z
        · exact .inl (z ▸ h)
        · exact .inr z
    · rw [if_neg h]
      have pw2 : ((acc ++ [y]) ++ r).Pairwise leS := by rw [List.append_assoc]; exact pw
      have nd2 : (acc ++ [y]).Nodup := by
        rw [List.nodup_append]
        exact ⟨nd, by simp, fun a ha b hb e => h (by rw [List.mem_singleton] at hb; rw [← hb, ← e]; exact ha)⟩
      obtain ⟨a, b, c⟩ := dd_spec r (acc ++ [y]) nd2 pw2
      refine ⟨a, b, fun x => ?_⟩
      rw [c x, List.mem_append, List.mem_singleton, List.mem_cons, or_assoc]
theorem dd_step (acc : List Str) (l : List Str) (y : Str) : dd acc (l ++ [y]) = if y ∈ dd acc l then dd acc l else dd acc l ++ [y] := by
  induction l generalizing acc with
  | nil => by_cases h : y ∈ acc <;> simp [dd, h]
  | cons x r ih =>
    show dd acc (x :: (r ++ [y])) = _
    unfold dd
    split
    · exact ih acc
    · exact ih _
theorem dd_ord {L ys : List Str} (p : ys.Perm L) (h : sortedS ys = true) : Ord L (dd [] ys) := by
  obtain ⟨a, b, c⟩ := dd_spec ys [] .nil (pw_sorted ys h)
  exact ⟨a, b, fun x => by rw [c x, p.mem_iff]; simp⟩
theorem srt_ord {L ss : List Str} (p : ss.Perm (putL L)) (h : sortedS ss = true) : Ord L ss :=
  ⟨pw_sorted ss h, p.nodup_iff.mpr (putL_nd L), fun x => by rw [p.mem_iff, putL_mem]⟩
/-- both signs of a name, those that are in L -/
def pick (L : List Str) (n : Str) : List Str := [n, "-" ++ n].filter fun z => decide (z ∈ L)
def due (L N : List Str) : List Str := N.flatMap (pick L)
section
open Evl
/-- [e for y in a list for x in a tuple that y gives] -/
theorem el_lc2 {σ : L2.St} {H : Hp} {a : Addr} {ys : List V} {tl tu te : TE} {j j1 : Nat} {vs vs1 : List Nat} (f : V → List V) (h : Ev tl σ H (.ref a)) (hx : SqL K H a ys) (hz : (ys.flatMap f).length ≤ 40000) (hw : ∀ x, wipe ((wipe σ vs).set j (some x)) vs = wipe σ vs)
    (hw1 : ∀ y x, wipe ((wipe ((wipe σ vs).set j (some y)) vs1).set j1 (some x)) vs1 = wipe ((wipe σ vs).set j (some y)) vs1) (hi : ∀ y ∈ ys, ∀ H1, Ex H H1 → EvU tu ((wipe σ vs).set j (some y)) H1 (f y))
    (he : ∀ y ∈ ys, ∀ x ∈ f y, ∀ H1, Ex H H1 → Ev te ((wipe ((wipe σ vs).set j (some y)) vs1).set j1 (some x)) H1 x) : EvL (tLc2 (iList K tl) (gName j) tYes (iTup K tu) (gName j1) tYes te vs vs1) σ H (ys.flatMap f) := fun H0 e Q q => h H0 e _ fun H1 e1 => by
  have hx1 := ex_l (e.trans e1) hx
  refine ⟨a, rfl, ⟨ys, hx1⟩, fun D hD => ?_⟩
  have P : ∃ P : Nat → Hp → Prop, P = fun i H' => Ex H1 H' ∧ H' D = some (.lst ((ys.take i).flatMap f)) := ⟨_, rfl⟩
  obtain ⟨P, hP⟩ := P
  refine ⟨fun i m H' => m = ys.length - i ∧ i ≤ ys.length ∧ P i H', ⟨_, rfl, Nat.zero_le _, by rw [hP]; exact ⟨Ex.new hD, upd_same⟩⟩, ?_⟩
  rintro i m H2 ⟨rfl, hi', p⟩
  have pp := p
  rw [hP] at pp
  obtain ⟨p1, p2⟩ := pp
  by_cases lt : i < ys.length
  · refine .inr ⟨⟨ys, ys[i], ex_l p1 hx1, by simp [lt]⟩, P (i + 1), fun H' z => ⟨ys.length - (i + 1), by omega, rfl, lt, z⟩, fun y H3 z => ?_⟩
    obtain ⟨rfl, z⟩ := z
    have hy : ys[i]? = some y := z ys (ex_l p1 hx1)
    have my : y ∈ ys := List.mem_of_getElem? hy
    refine ⟨hw y, ?_⟩
    unfold tYes
    dsimp only
    rw [if_pos rfl]
    refine hi y my _ ((e.trans e1).trans p1) _ (Ex.refl _) _ fun t H4 nt e4 ht => ⟨t, rfl, ⟨f y, st_of ht⟩, ?_⟩
    have nD : t ≠ D := fun z => by rw [z, p2] at nt; cases nt
    refine ⟨fun k m H' => m = (f y).length - k ∧ k ≤ (f y).length ∧ Ex H1 H' ∧ H' t = some (.tup (f y)) ∧ H' D = some (.lst ((ys.take i).flatMap f ++ (f y).take k)), ⟨_, rfl, Nat.zero_le _, p1.trans e4, ht, by rw [List.take_zero, List.append_nil]; exact e4 _ _ p2⟩, ?_⟩
    rintro k m H5 ⟨rfl, hk, r1, r2, r3⟩
    have small : ((ys.take i).flatMap f).length + (f y).length ≤ 40000 := by
      have z1 : ys = ys.take i ++ y :: ys.drop (i + 1) := by
        have z2 : ys.drop i = y :: ys.drop (i + 1) := by
          rw [List.drop_eq_getElem_cons lt]
          have z3 := (List.getElem?_eq_some_iff.mp hy).2
          rw [z3]
        rw [← z2, List.take_append_drop]
      have z4 : ys.flatMap f = (ys.take i).flatMap f ++ (f y ++ (ys.drop (i + 1)).flatMap f) := by
        have z5 := congrArg (List.flatMap f) z1
        rw [List.flatMap_append, List.flatMap_cons] at z5
        exact z5
      rw [z4, List.length_append, List.length_append] at hz
      omega
    by_cases lk : k < (f y).length
    · refine .inr ⟨⟨f y, (f y)[k], st_of r2, by simp [lk]⟩, fun H' => k + 1 ≤ (f y).length ∧ Ex H1 H' ∧ H' t = some (.tup (f y)) ∧ H' D = some (.lst ((ys.take i).flatMap f ++ (f y).take (k + 1))), fun H' z => ⟨(f y).length - (k + 1), by omega, rfl, z⟩, fun x H6 z => ?_⟩
      obtain ⟨rfl, z⟩ := z
      have hxk : (f y)[k]? = some x := z (f y) (st_of r2)
      refine ⟨hw1 y x, ?_⟩
      dsimp only
      rw [if_pos rfl]
      refine he y my x (List.mem_of_getElem? hxk) _ ((e.trans e1).trans r1) _ (Ex.refl _) _ fun H7 e7 => ⟨_, e7 _ _ r3, ?_, lk, Ex.mut (r1.trans e7) hD, ?_, ?_⟩
      · rw [List.length_append]
        exact sz_lt (by have := List.length_take_le k (f y); omega)
      · rw [upd_ne nD]; exact e7 _ _ r2
      · rw [upd_same, List.take_add_one, hxk, List.append_assoc] <;> rfl
    · have ek : k = (f y).length := by omega
      refine .inl ⟨⟨f y, st_of r2, by omega⟩, ?_⟩
      rw [hP]
      refine ⟨r1, ?_⟩
      rw [r3, ek, List.take_length, List.take_add_one, hy, List.flatMap_append] <;> simp
  · have ei : i = ys.length := by omega
    refine .inl ⟨⟨ys, ex_l p1 hx1, by omega⟩, ?_⟩
    rw [ei, List.take_length] at p2
    exact q D H2 (fresh_back e1 hD) (e1.trans p1) p2
end
/-! ### both_signs, in_order -/
def twoOf (n : Str) : List Str := [n, "-" ++ n]
def twoV : V → List V
  | .str n => [.str n, .str ("-" ++ n)]
  | _ => []
theorem two_map : ∀ ns : List Str, (ns.map V.str).flatMap twoV = (ns.flatMap twoOf).map V.str
  | [] => rfl
  | n :: r => by
    rw [List.map_cons, List.flatMap_cons, List.flatMap_cons, List.map_append, two_map r]
    rfl
theorem two_len (ns : List Str) : (ns.flatMap twoOf).length = 2 * ns.length := by
  induction ns with
  | nil => rfl
  | cons n r ih => rw [List.flatMap_cons, List.length_append, ih, List.length_cons]; show 2 + 2 * r.length = _; omega
open Evl in
theorem ev_minus {σ : L2.St} {H : Hp} {j : Nat} {z : Str} (h : σ[j]? = some (some (.str z))) (hz : z.cps.size ≤ 99) : Ev (fun σ H Q => tJs [tC (.str "-"), tFmt (tVar j)] Str.empty σ H fun out H1 => Q (.str out) H1) σ H (.str ("-" ++ z)) := fun H1 e Q q => by
  have zl : z.length ≤ 99 := hz
  have l1 : (Str.empty ++ ("-" : Str)).length ≤ sizeLine := line_of (by decide)
  have l2 : (Str.empty ++ ("-" : Str) ++ z).length ≤ sizeLine := line_of (Nat.le_trans (app_le (n := 1) (m := 99) (by decide) hz) (by decide))
  exact ⟨"-", rfl, l1, _, h, .inl ⟨z, rfl, line_of (by omega), z, rfl, l2, q H1 (Ex.refl H1)⟩⟩
def spBoth : Sp := fun vs H Q _ => ∃ (a : Addr) (ns : List Str), vs = [.ref a] ∧ H a = some (.lst (ns.map V.str)) ∧ ns.length ≤ 200 ∧ (∀ z ∈ ns, z.cps.size ≤ 99) ∧ Evl.RetL ((ns.flatMap twoOf).map V.str) H Q
open Evl in
theorem ok_both_signs (T : Txt P K mg) : FnOk P w K mg base CX0 1 T.f_both_signs T.d_both_signs ["names"] spBoth := by
  refine T.F_both_signs.ok sc_both_signs (fun vs H Q E h => ?_) (fun cdv A outer s H vs Q E hr h => ?_)
  · obtain ⟨a, ns, rfl, _⟩ := h
    rfl
  · obtain ⟨a, ns, rfl, ha, few, short, q⟩ := h
    refine ⟨_, (pss_one (ps_ret (pe_lc2 (own := [("name", 1), ("literal", 2)]) (vs1 := [2]) (wi1 := iTup K (tTup (tCons (tVar 1) (tCons (fun σ H Q => tJs [tC (.str "-"), tFmt (tVar 1)] Str.empty σ H fun out H1 => Q (.str out) H1) tNil)))) (g := gName 1) (g1 := gName 2) (by rfl) sc_both_signs.nd (pi_list (pv 0)) (blkOk_by (own := [("name", 1), ("literal", 2)]) (N := N_both_signs) (sc := defScope s_both_signs) (by decide +kernel)) (by decide)
      (fun _ _ _ _ _ => pg_name (i := 1) sc_both_signs.nd rfl (Or.inl rfl)) (fun _ _ _ _ _ => pts_nil) (fun _ _ _ _ _ => pi_tup (pe_tup (pa_cons (pv 1) (pa_cons (pe_joined (.cons pe_str (.cons (pe_fmt (pv 1)) .nil))) pa_nil))))
      (fun _ _ _ _ _ => pg_name (i := 2) sc_both_signs.nd rfl (Or.inl rfl)) (fun _ _ _ _ _ => pts_nil) (fun _ _ _ _ _ => (pv 2))))), ?_⟩
    refine s_retL (xs := (ns.map V.str).flatMap twoV) (el_lc2 (K := K) (ys := ns.map V.str) twoV (ev_var rfl) (sq_of ha) ?_ (fun _ => rfl) (fun _ _ => rfl) (fun y hy H1 e1 => ?_) (fun y hy x hx H1 e1 => ev_var rfl)) (fun p H1 np e1 hp => q p H1 np e1 (by rw [hp, two_map]))
    · rw [two_map, List.length_map, two_len]; omega
    · obtain ⟨n, hn, rfl⟩ := List.mem_map.mp hy
      exact eu_tup (ea_cons (ev_var rfl) (ea_cons (ev_minus rfl (short n hn)) ea_nil)) (show 2 ≤ 100000 by decide)
theorem in_map {z : Str} {L : List Str} : inV (.str z) (L.map V.str) = decide (z ∈ L) := by
  unfold inV
  rw [List.any_map]
  induction L with
  | nil => rfl
  | cons y r ih =>
    rw [List.any_cons, ih]
    have e : (eqV (V.str y) (V.str z)) = decide (z = y) := by
      by_cases h : z = y
      · subst h; simp [eqV]
      · simp [eqV, h, Ne.symm h]
    show (eqV (V.str y) (V.str z) || decide (z ∈ r)) = _
    rw [e]
    by_cases h1 : z = y <;> by_cases h2 : z ∈ r <;> simp [h1, h2]
theorem flat_str (L : List Str) : (L.map V.str).all flatV = true := flat_strs L
open Evl in
/-- z in a list of texts -/
theorem ev_inStr {σ : L2.St} {H : Hp} {ta tb : TE} {z : Str} {p : Addr} {L : List Str} (ha : Ev ta σ H (.str z)) (hb : Ev tb σ H (.ref p)) (hp : H p = some (.lst (L.map V.str))) : Ev (tOp (rIn K false) ta tb) σ H (.bl (decide (z ∈ L))) :=
  ev_is (ev_op ha hb (rv_isL (sq_of hp) rfl (flat_str L))) (by rw [in_map])
open Evl in
theorem ev_niStr {σ : L2.St} {H : Hp} {ta tb : TE} {z : Str} {p : Addr} {L : List Str} (ha : Ev ta σ H (.str z)) (hb : Ev tb σ H (.ref p)) (hp : H p = some (.lst (L.map V.str))) : Ev (tOp (rIn K true) ta tb) σ H (.bl (!decide (z ∈ L))) :=
  ev_is (ev_op ha hb (rv_niL (sq_of hp) rfl (flat_str L))) (by rw [in_map])
theorem pick_all (L N : List Str) : (N.flatMap twoOf).filter (fun z => decide (z ∈ L)) = due L N := by
  unfold due
  induction N with
  | nil => rfl
  | cons n r ih =>
    rw [List.flatMap_cons, List.flatMap_cons, List.filter_append, ih]
    rfl
open Evl in
theorem ev_inStrT {σ : L2.St} {H : Hp} {ta tb : TE} {z : Str} {p : Addr} {L : List Str} (ha : Ev ta σ H (.str z)) (hb : Ev tb σ H (.ref p)) (hp : H p = some (.tup (L.map V.str))) : Ev (tOp (rIn K false) ta tb) σ H (.bl (decide (z ∈ L))) :=
  ev_is (ev_op ha hb (rv_isT (st_of hp) rfl (flat_str L))) (by rw [in_map])
/-- in_order(literals), literals a tuple -/
def spOrderT (C : Addr) : Sp := fun vs H Q E => ∃ (a : Addr) (L : List Str), vs = [.ref a] ∧ H a = some (.tup (L.map V.str)) ∧ L.length ≤ 100 ∧ (∀ z ∈ L, z.cps.size ≤ 99 ∧ ∀ c ∈ z.cps.toList, c < 128) ∧
  ((∀ z ∈ L, isLit z = true) → ∀ N, Ord (L.map bare) N → Evl.RetL ((due L N).map V.str) H Q) ∧
  (∀ pre z post, L = pre ++ z :: post → (∀ y ∈ pre, isLit y = true) → isLit z = false → ∀ H' d, Evl.Ex H H' → H' d = some (.xd [("text", .str z)]) → E (.ref C) (some d) H')
open Evl in
theorem okT_in_order (T : Txt P K mg) : FnOk P w K mg base (L2N.CX P w) 5 T.f_in_order T.d_in_order ["literals"] (spOrderT T.C_BadLiteral) := by
  refine T.F_in_order.okN sc_in_order (fun vs H Q E h => ?_) (fun cdv A outer s H vs Q E hr h => ?_)
  · obtain ⟨a, L, rfl, _⟩ := h
    rfl
  · obtain ⟨a, L, rfl, ha, few, short, good, bad⟩ := h
    refine ⟨_, (pss_cons (ps_setLcE (i := 1) (own := [("literal", 2)]) (g := gName 2) rfl rfl (L2N.takes_of rfl rfl rfl rfl) (by rfl) sc_in_order.nd rfl rfl (sw_true rfl rfl rfl (by decide +kernel)) (pi_tup (pv 0)) (blkOk_by (own := [("literal", 2)]) (N := N_in_order) (sc := defScope s_in_order) (by decide +kernel))
      (fun _ _ _ _ _ _ _ => pg_name (i := 2) sc_in_order.nd rfl (Or.inl rfl)) (fun _ _ _ _ _ _ _ => pts_nil) (fun _ _ _ _ _ _ pass => (pe_call (ok_name_of T) (hr.mono (by decide)) rfl T.g_name_of T.F_name_of.kp T.b_name_of .nil pass (pa_cons (pv 2) pa_nil))))
      (pss_one (ps_ret (pe_lc (own := [("literal", 2)]) (g := gName 2) (tt := tTest (tOp (rIn K false) (tVar 2) (tVar 0))) (by rfl) sc_in_order.nd (pi_list (pe_call (ok_both_signs T) (hr.mono (by decide)) rfl T.g_both_signs T.F_both_signs.kp T.b_both_signs .nil pass0 (pa_cons (pe_callB (cr_srtS rfl) (by rfl) T.n_sorted (by decide +kernel) (pa_cons (pe_callTy (cr_setS rfl) (by rfl) T.n_set (by decide +kernel) (pa_cons (pv 1) pa_nil)) pa_nil)) pa_nil))) (blkOk_by (own := [("literal", 2)]) (N := N_in_order) (sc := defScope s_in_order) (by decide +kernel)) (fun _ _ _ _ _ => pg_name (i := 2) sc_in_order.nd rfl (Or.inl rfl)) (fun _ _ _ _ _ => (pts_one (pt_cmpR op_in_seq (pv 2) (pv 0) (by rfl)))) (fun _ _ _ _ _ => (pv 2)))))), ?_⟩
    have len8 : ∀ z ∈ L, (bare z).cps.size ≤ 99 := fun z hz => Nat.le_trans (bare_len z) (short z hz).1
    refine ⟨_, rfl, a, rfl, ⟨_, st_of ha⟩, fun D nD => lc_tup (K := K) (xs := L.map V.str) (fun i H' => Ex (upd H D (.lst [])) (upd H' D (.lst [])) ∧ H' D = some (.lst (((L.take i).map bare).map V.str)) ∧ ∀ z ∈ L.take i, isLit z = true) ⟨by rw [upd_upd]; exact Ex.refl _, upd_same, fun z hz => by simp at hz⟩ ?keep ?step ?done⟩
    case keep =>
      rintro i H1 hi ⟨e1, _, _⟩
      refine st_of ?_
      have z := e1 a _ (by rw [upd_ne (ne_of_none ha nD)]; exact ha)
      rw [upd_ne (ne_of_none ha nD)] at z
      exact z
    case step =>
      rintro i x H1 hx ⟨e1, h1, yes⟩
      obtain ⟨z, hz, rfl⟩ : ∃ z, L[i]? = some z ∧ V.str z = x := by
        rw [List.getElem?_map] at hx
        cases e : L[i]? with
        | none => rw [e] at hx; cases hx
        | some z => rw [e] at hx; exact ⟨z, rfl, Option.some.inj hx⟩
      have mz : z ∈ L := List.mem_of_getElem? hz
      refine ⟨rfl, ?_⟩
      unfold tYes
      dsimp only
      rw [if_pos rfl]
      refine ⟨_, rfl, z, rfl, (short z mz).1, (short z mz).2, fun hl H2 e2 => ⟨_, e2 _ _ h1, ?_, ?_, ?_, ?_⟩, fun hl H2 d e2 hd => ?_⟩
      · rw [List.length_map, List.length_map]
        exact sz_lt (by have := List.length_take_le' i L; omega)
      · rw [upd_upd]
        intro b o hb
        by_cases hbD : b = D
        · rw [hbD, upd_same] at hb
          rw [hbD, upd_same]; exact hb
        · have z1 := e1 b o hb
          rw [upd_ne hbD] at z1 ⊢
          exact e2 b o z1
      · rw [upd_same, List.take_add_one, hz, List.map_append, List.map_append]
        rfl
      · intro y hy
        rw [List.take_add_one, hz] at hy
        rcases List.mem_append.mp hy with h | h
        · exact yes y h
        · have e : y = z := by simpa using h
          rw [e]; exact hl
      · refine bad (L.take i) z (L.drop (i + 1)) ?_ yes hl H2 d (fun b o hb => ?_) hd
        · have lt := (List.getElem?_eq_some_iff.mp hz).1
          have q := (List.getElem?_eq_some_iff.mp hz).2
          have z2 : L.drop i = z :: L.drop (i + 1) := by rw [List.drop_eq_getElem_cons lt, q]
          rw [← z2, List.take_append_drop]
        · have nb : b ≠ D := ne_of_none hb nD
          have z1 := e1 b o (by rw [upd_ne nb]; exact hb)
          rw [upd_ne nb] at z1
          exact e2 b o z1
    case done =>
      rintro H1 ⟨e1, h1, yes⟩
      rw [List.length_map, List.take_length] at h1 yes
      have eH : Ex H H1 := fun b o hb => by
        have nb : b ≠ D := ne_of_none hb nD
        have z1 := e1 b o (by rw [upd_ne nb]; exact hb)
        rw [upd_ne nb] at z1
        exact z1
      have cnt : (L.map bare).length ≤ 100 := by rw [List.length_map]; exact few
      refine ⟨_, rfl, D, L.map bare, rfl, sq_of h1, by omega, fun p np => ⟨p, putL (L.map bare), rfl, upd_same, putL_nd _, by have := putL_len (L.map bare); omega, fun ss r pm so nr => ?_⟩⟩
      have od := srt_ord pm so
      have snum : ss.length ≤ 100 := by rw [pm.length_eq]; have := putL_len (L.map bare); omega
      have shorts : ∀ z ∈ ss, z.cps.size ≤ 99 := fun z hz => by
        obtain ⟨y, hy, rfl⟩ := List.mem_map.mp ((od.mem z).mp hz)
        exact len8 y hy
      refine ⟨r, ss, rfl, upd_same, by omega, shorts, fun b H2 nb e2 hb => ?_⟩
      have e3 : Ex H1 H2 := (Ex.new np).trans ((Ex.new nr).trans e2)
      refine ⟨b, rfl, ⟨_, sq_of hb⟩, fun D2 nD2 => lc_list (K := K) (xs := (ss.flatMap twoOf).map V.str) (fun i H' => Ex H2 H' ∧ H' D2 = some (.lst ((((ss.flatMap twoOf).take i).filter fun z => decide (z ∈ L)).map V.str))) ⟨Ex.new nD2, upd_same⟩ (fun i H' _ p => ex_l p.1 (sq_of hb)) ?_ ?_⟩
      · rintro i x H3 hx ⟨q1, q2⟩
        obtain ⟨z, hz, rfl⟩ : ∃ z, (ss.flatMap twoOf)[i]? = some z ∧ V.str z = x := by
          rw [List.getElem?_map] at hx
          cases e : (ss.flatMap twoOf)[i]? with
          | none => rw [e] at hx; cases hx
          | some z => rw [e] at hx; exact ⟨z, rfl, Option.some.inj hx⟩
        refine ⟨rfl, ?_⟩
        have ha3 : H3 a = some (.tup (L.map V.str)) := q1 _ _ (e3 _ _ (eH _ _ ha))
        refine et_test (ev_inStrT (ev_var rfl) (ev_var rfl) ha3) H3 (Ex.refl _) _ fun H4 e4 => ?_
        by_cases m : z ∈ L
        · rw [decide_eq_true m, if_pos rfl]
          refine ⟨_, rfl, _, e4 _ _ q2, ?_, Ex.mut (q1.trans e4) nD2, ?_⟩
          · rw [List.length_map]
            refine sz_lt ?_
            have l1 := List.length_filter_le (fun z => decide (z ∈ L)) ((ss.flatMap twoOf).take i)
            have l2 := List.length_take_le' i (ss.flatMap twoOf)
            rw [two_len] at l2
            omega
          · rw [upd_same, List.take_add_one, hz]
            simp [m]
        · rw [decide_eq_false m, if_neg (by decide)]
          refine ⟨q1.trans e4, ?_⟩
          rw [e4 _ _ q2, List.take_add_one, hz]
          simp [m]
      · rintro H3 ⟨q1, q2⟩
        rw [List.length_map, List.take_length, pick_all] at q2
        exact good yes ss od D2 H3 (fresh_back (eH.trans e3) nD2) ((eH.trans e3).trans q1) q2
/-! ### drawn words and names -/
theorem app_codes (x y : Str) : (x ++ y).cps.toList = x.cps.toList ++ y.cps.toList := Array.toList_append ..
theorem sg_codes (c : Nat) : (⟨#[c]⟩ : Str).cps.toList = [c] := rfl
theorem take_min (l : List Nat) (i : Nat) : l.take (min i l.length) = l.take i := by
  rw [← List.take_take, List.take_length]
theorem drop_min (l : List Nat) (i : Nat) : l.drop (min i l.length) = l.drop i := by
  by_cases h : i ≤ l.length
  · rw [Nat.min_eq_left h]
  · rw [Nat.min_eq_right (by omega), List.drop_length, List.drop_eq_nil_of_le (by omega)]
theorem codes_len (z : Str) : z.cps.toList.length = z.length := Array.length_toList
theorem sIx_of (n d : Nat) {i : Int} (h : 0 ≤ i) : HT.sIx n d (some i) = min i.toNat n := by
  obtain ⟨k, rfl⟩ := Int.eq_ofNat_of_zero_le h
  exact HT.sIx_nat n d k
theorem cut_to (z : Str) {i : Int} (h : 0 ≤ i) : (cutS z none (some i)).cps.toList = z.cps.toList.take i.toNat := by
  show ((z.cps.toList.drop (HT.sIx z.length 0 none)).take (HT.sIx z.length z.length (some i) - HT.sIx z.length 0 none)).toArray.toList = _
  rw [sIx_of _ _ h, HT.sIx_none, List.drop_zero, Nat.sub_zero, ← codes_len]
  exact take_min _ _
theorem cut_mid (z : Str) {i j : Int} (h : 0 ≤ i) (h2 : 0 ≤ j) : (cutS z (some i) (some j)).cps.toList = (z.cps.toList.drop i.toNat).take (j.toNat - i.toNat) := by
  show ((z.cps.toList.drop (HT.sIx z.length 0 (some i))).take (HT.sIx z.length z.length (some j) - HT.sIx z.length 0 (some i))).toArray.toList = _
  rw [sIx_of _ _ h, sIx_of _ _ h2, ← codes_len, drop_min]
  show List.take _ _ = _
  have e := take_min (z.cps.toList.drop i.toNat) (j.toNat - i.toNat)
  rw [← e, List.length_drop]
  by_cases c : i.toNat ≤ z.cps.toList.length
  · have q : min j.toNat z.cps.toList.length - min i.toNat z.cps.toList.length = min (j.toNat - i.toNat) (z.cps.toList.length - i.toNat) := by omega
    rw [q]
  · rw [List.drop_eq_nil_of_le (by omega), List.take_nil, List.take_nil]
theorem cut_fr (z : Str) {i : Int} (h : 0 ≤ i) : (cutS z (some i) none).cps.toList = z.cps.toList.drop i.toNat := by
  show ((z.cps.toList.drop (HT.sIx z.length 0 (some i))).take (HT.sIx z.length z.length none - HT.sIx z.length 0 (some i))).toArray.toList = _
  rw [sIx_of _ _ h, HT.sIx_none, ← codes_len, drop_min]
  show List.take _ _ = _
  refine List.take_of_length_le ?_
  rw [List.length_drop]; omega
structure Wd (n : Nat) (z : Str) : Prop where
  len : z.cps.toList.length = n
  head : z.cps.toList.head?.any ltr = true
  all : z.cps.toList.all lod = true
theorem lod_small {c : Nat} (h : lod c = true) : c < 128 := by
  have q : ∀ c ∈ ("abcdefghijklmnopqrstuvwxyz0123456789" : Str).cps.toList, c < 128 := by decide
  exact q c (of_decide_eq_true h)
theorem ltr_lod {c : Nat} (h : ltr c = true) : lod c = true := by rw [lod_eq, h] <;> rfl
theorem Wd.txt {n : Nat} {z : Str} (h : Wd n z) : Txt8 n z := by
  refine ⟨?_, fun c hc => lod_small (List.all_eq_true.mp h.all c hc)⟩
  rw [← Array.length_toList, h.len]
  exact Nat.le_refl _
theorem Wd.push {n : Nat} {z : Str} {c : Nat} (h : Wd n z) (hn : 1 ≤ n) (hc : lod c = true) : Wd (n + 1) (z ++ ⟨#[c]⟩) := by
  have e := app_codes z ⟨#[c]⟩
  rw [sg_codes] at e
  refine ⟨?_, ?_, ?_⟩
  · rw [e, List.length_append, h.len] <;> rfl
  · rw [e]
    cases q : z.cps.toList with
    | nil => have z1 := h.len; rw [q] at z1; simp at z1; omega
    | cons x r => have z1 := h.head; rw [q] at z1; exact z1
  · rw [e, List.all_append, h.all]
    simp [hc]
theorem Wd.one {c : Nat} (h : ltr c = true) : Wd 1 ⟨#[c]⟩ := ⟨rfl, by rw [sg_codes]; exact h, by rw [sg_codes]; simp [ltr_lod h]⟩
/-- a letter of the alphabet; one of the 36 signs -/
theorem ltr_at {i c : Nat} (h : ("abcdefghijklmnopqrstuvwxyz" : Str).cps[i]? = some c) : ltr c = true := by
  rw [← Array.getElem?_toList] at h
  exact decide_eq_true (List.mem_of_getElem? h)
theorem lod_at {i c : Nat} (h : ("0123456789abcdefghijklmnopqrstuvwxyz" : Str).cps[i]? = some c) : lod c = true := by
  rw [← Array.getElem?_toList] at h
  have q : ∀ c ∈ ("0123456789abcdefghijklmnopqrstuvwxyz" : Str).cps.toList, lod c = true := by decide
  exact q c (List.mem_of_getElem? h)
theorem nm_of {l1 l2 : List Nat} {c : Nat} {z : Str} (e : z.cps.toList = l1 ++ [c] ++ l2) (h1 : l1 = [] ∨ l1.head?.any ltr = true) (a1 : l1.all lod = true) (a2 : l2.all lod = true) (hc : ltr c = true) (len : l1.length + 1 + l2.length ≤ 8) : isName z = true := by
  unfold isName nameL
  rw [e]
  have ln : (l1 ++ [c] ++ l2).length = l1.length + 1 + l2.length := by rw [List.length_append, List.length_append] <;> rfl
  rw [ln, decide_eq_true (show 1 ≤ l1.length + 1 + l2.length by omega), decide_eq_true len]
  have hd : (l1 ++ [c] ++ l2).head?.any ltr = true := by
    cases l1 with
    | nil => exact hc
    | cons x r => rcases h1 with h | h
                  · cases h
                  · exact h
  have al : (l1 ++ [c] ++ l2).all lod = true := by
    rw [List.all_append, List.all_append, a1, a2]
    simp [ltr_lod hc]
  rw [hd, al]
  rfl
theorem all_take {l : List Nat} (h : l.all lod = true) (n : Nat) : (l.take n).all lod = true := List.all_eq_true.mpr fun c hc => List.all_eq_true.mp h c (List.mem_of_mem_take hc)
theorem all_drop {l : List Nat} (h : l.all lod = true) (n : Nat) : (l.drop n).all lod = true := List.all_eq_true.mpr fun c hc => List.all_eq_true.mp h c (List.mem_of_mem_drop hc)
theorem head_take {l : List Nat} (h : l.head?.any ltr = true) (n : Nat) : l.take n = [] ∨ (l.take n).head?.any ltr = true := by
  cases n with
  | zero => exact .inl List.take_zero
  | succ n => cases l with
    | nil => exact .inl List.take_nil
    | cons x r => exact .inr h
theorem name_len {z : Str} (h : isName z = true) : 1 ≤ z.cps.toList.length ∧ z.cps.toList.length ≤ 8 ∧ z.cps.toList.head?.any ltr = true ∧ z.cps.toList.all lod = true := by
  unfold isName nameL at h
  simp only [Bool.and_eq_true, decide_eq_true_eq] at h
  exact ⟨h.1, h.2.1, h.2.2.1, h.2.2.2⟩
theorem name_txt {z : Str} (h : isName z = true) : Txt8 8 z := by
  obtain ⟨_, h8, _, al⟩ := name_len h
  refine ⟨?_, fun c hc => lod_small (List.all_eq_true.mp al c hc)⟩
  rw [← Array.length_toList]; exact h8
/-- _law_word(source, size) -/
def spWordL : Sp := fun vs H Q _ => ∃ (a l : Addr) (ns : List Int) (n : Int), vs = [.ref a, .int n] ∧ SrcL H a l ns ∧ 1 ≤ n ∧ n ≤ 8 ∧ ∀ H' z, Wd n.toNat z → SrcL H' a l ns → But a H H' → Q (.str z) H'
theorem okL__law_word (T : Txt P K mg) : FnOk P w K mg base CX0 2 T.f__law_word T.d__law_word ["_law_source_here", "_law_size"] spWordL := by
  refine T.F__law_word.ok sc__law_word (fun vs H Q E h => ?_) (fun cdv A outer s H vs Q E hr h => ?_)
  · obtain ⟨a, l, ns, n, rfl, _⟩ := h
    rfl
  · obtain ⟨a, l, ns, n, rfl, S, h1, h8, q⟩ := h
    refine ⟨_, (pss_cons (ps_set (i := 2) sc__law_word.nd rfl (.inl rfl) pe_str)
      (pss_cons (ps_set (i := 3) sc__law_word.nd rfl (.inl rfl) pe_str)
      (pss_cons (ps_set (i := 4) sc__law_word.nd rfl (.inl rfl) (pe_item_str (pv 2) (pe_call (okL__law_take T) (hr.mono (by decide)) rfl T.g__law_take T.F__law_take.kp T.b__law_take .nil pass0 (pa_cons (pv 0) (pa_cons pe_int pa_nil))) (fun _ _ => rfl)))
      (pss_cons (ps_set (i := 5) sc__law_word.nd rfl (.inl rfl) (pe_call (okL__law_take T) (hr.mono (by decide)) rfl T.g__law_take T.F__law_take.kp T.b__law_take .nil pass0 (pa_cons (pv 0) (pa_cons (pe_op op_pow pe_int pe_int) pa_nil))))
      (pss_cons (ps_for PassesOwn.never rfl (pi_range1 rfl T.n_range (pa_cons (pe_op op_sub (pv 1) pe_int) pa_nil)) (pg_name (i := 6) sc__law_word.nd rfl (.inl rfl)) (pss_cons (ps_set (i := 4) sc__law_word.nd rfl (.inl rfl) (pe_op op_add_str (pv 4) (pe_item_str (pv 3) (pe_op op_modN (pe_callTy call_int1 (by rfl) T.n_int (by decide +kernel) (pa_cons (pv 5) pa_nil)) pe_int) (fun _ _ => rfl))))
      (pss_one (ps_set (i := 5) sc__law_word.nd rfl (.inl rfl) (pe_op op_fdivW (pv 5) pe_int)))))
      (pss_one (ps_ret (pv 4)))))))), ?_⟩
    refine ⟨_, rfl, .ref a, rfl, a, 26, l, ns, rfl, S, by decide, by decide, fun H1 r r0 r1 S1 B1 => ?_⟩
    obtain ⟨c, hc, hl, tc⟩ := item_of (z := "abcdefghijklmnopqrstuvwxyz") r0 r1 (by decide) (by decide)
    refine ⟨_, _, c, rfl, rfl, r0, by omega, hl, hc, .ref a, rfl, _, _, rfl, rfl, ⟨by decide, by decide, by decide⟩, a, _, l, ns, rfl, S1, by decide, by decide, fun H2 r2 r20 r21 S2 B2 => ?_⟩
    refine ⟨_, rfl, _, _, rfl, rfl, n - 1, rfl, by omega, by omega, for_range (lo := 0) (n := (n - 1).toNat) (fun i σ H' => ∃ (z : Str) (y : Int) (v : Option V), σ = [some (.ref a), some (.int n), some (.str "abcdefghijklmnopqrstuvwxyz"), some (.str "0123456789abcdefghijklmnopqrstuvwxyz"), some (.str z), some (.int y), v] ∧ Wd (i + 1) z ∧ H' = H2) ⟨_, _, _, rfl, Wd.one (ltr_at hc), rfl⟩ ?_ ?_⟩
    · rintro i σ H' hi ⟨z, y, v, rfl, tz, rfl⟩
      obtain ⟨c2, hc2, hl2, tc2⟩ := item_of (z := "0123456789abcdefghijklmnopqrstuvwxyz") (fmod_lo y (m := 36) (by decide)) (fmod_hi y (m := 36) (by decide)) (by decide) (by decide)
      have f1 := fmod_lo y (m := 36) (by decide)
      have f2 := fmod_hi y (m := 36) (by decide)
      refine ⟨_, rfl, _, rfl, _, rfl, .inl ⟨_, rfl, _, _, rfl, rfl, (show (36 : Int) ≠ 0 by decide), _, _, c2, rfl, rfl, f1, by omega, hl2, hc2, _, _, rfl, rfl, line_of (by have h1 := tz.txt.1; have h2 : z.length = z.cps.size := rfl; show z.length + 1 ≤ 1000; omega), ?_⟩⟩
      refine ⟨_, rfl, _, _, rfl, rfl, wide_div (b := 64) (by decide) (by decide) (by decide) (by decide), ?_⟩
      exact ⟨_, _, _, rfl, tz.push (by omega) (lod_at hc2), rfl⟩
    · rintro σ H' ⟨z, y, v, rfl, tz, rfl⟩
      have e : (n - 1).toNat + 1 = n.toNat := by omega
      rw [e] at tz
      exact ⟨_, rfl, q _ z tz S2 (B1.trans B2)⟩
theorem srl_put {H : Hp} {u l0 l : Addr} {ns : List Int} {o : HO} (S : SrcL H u l0 ns) (h1 : l ≠ u) (h2 : l ≠ l0) : SrcL (upd H l o) u l0 ns := by
  obtain ⟨⟨i, x, k, m, h0, h⟩, hl⟩ := S
  exact ⟨⟨i, x, k, m, h0, by rw [upd_ne h1.symm]; exact h⟩, by rw [upd_ne h2.symm]; exact hl⟩
theorem srl_ex {H H' : Hp} {u l0 : Addr} {ns : List Int} (S : SrcL H u l0 ns) (e : Evl.Ex H H') : SrcL H' u l0 ns := by
  obtain ⟨⟨i, x, k, m, h0, h⟩, hl⟩ := S
  exact ⟨⟨i, x, k, m, h0, e _ _ h⟩, e _ _ hl⟩
theorem srl_at {H : Hp} {u l0 : Addr} {ns : List Int} (S : SrcL H u l0 ns) : ∃ o, H u = some o := let ⟨⟨_, _, _, _, _, h⟩, _⟩ := S; ⟨_, h⟩
theorem srl_off {H : Hp} {u l0 p : Addr} {ns : List Int} (S : SrcL H u l0 ns) (hp : H p = none) : p ≠ u ∧ p ≠ l0 := by
  obtain ⟨⟨i, x, k, m, h0, h⟩, hl⟩ := S
  exact ⟨fun e => (by rw [e, h] at hp; cases hp), fun e => (by rw [e, hl] at hp; cases hp)⟩
theorem srl_new {H : Hp} {u l0 p : Addr} {ns : List Int} {o : HO} (S : SrcL H u l0 ns) (hp : H p = none) : SrcL (upd H p o) u l0 ns := srl_put S (srl_off S hp).1 (srl_off S hp).2
theorem But.upd2 {a p : Addr} {H H1 : Hp} {o : HO} (x : But a H H1) (hp : H p = none) : But a H (L2.upd H1 p o) := fun b u n h => by
  rw [upd_ne (ne_of_none h hp)]
  exact x b u n h
theorem But.fresh {a p : Addr} {H H1 : Hp} (x : But a H H1) (S : ∃ o, H a = some o) (hp : H1 p = none) (hpa : p ≠ a) : H p = none := by
  cases e : H p with
  | none => rfl
  | some o => have z := x p o hpa e; rw [hp] at z; cases z
/-- the letter at a place of the alphabet -/
def abc (i : Int) : Option Nat := ("abcdefghijklmnopqrstuvwxyz" : Str).cps[(Int.fmod i 26).toNat]?
theorem abc_inj : ∀ i j : Fin 26, ("abcdefghijklmnopqrstuvwxyz" : Str).cps[i.val]? = ("abcdefghijklmnopqrstuvwxyz" : Str).cps[j.val]? → i = j := by decide +kernel
theorem abc_eq {i j : Int} (h : abc i = abc j) : i % 26 = j % 26 := by
  unfold abc at h
  have e1 : Int.fmod i 26 = i % 26 := Int.fmod_eq_emod_of_nonneg i (by decide)
  have e2 : Int.fmod j 26 = j % 26 := Int.fmod_eq_emod_of_nonneg j (by decide)
  rw [e1, e2] at h
  have z := abc_inj ⟨(i % 26).toNat, by omega⟩ ⟨(j % 26).toNat, by omega⟩ h
  have y := congrArg Fin.val z
  dsimp only at y
  omega
/-- different letters at one place -/
theorem apart_names {nms : List Str} {pos : Nat} {sh pc : Int} (many : nms.length ≤ 26) (hp : pc = 1 ∨ pc = 5 ∨ pc = 7 ∨ pc = 25) (h : ∀ (j : Nat) (hj : j < nms.length), (nms[j]).cps.toList[pos]? = abc (sh + pc * (j : Int))) : nms.Nodup := by
  rw [List.Nodup, List.pairwise_iff_getElem]
  intro i j hi hj lt e
  have a := h i hi
  have b := h j hj
  rw [e, b] at a
  have z := abc_eq a
  rcases hp with rfl | rfl | rfl | rfl <;> omega
theorem mid_at {l1 l2 : List Nat} {c k : Nat} (h : l1.length = k) : (l1 ++ (⟨#[c]⟩ : Str).cps.toList ++ l2)[k]? = some c := by
  subst h
  show (l1 ++ [c] ++ l2)[l1.length]? = some c
  rw [List.append_assoc, List.getElem?_append_right (Nat.le_refl _), Nat.sub_self]
  rfl
theorem len_codes (z : Str) : (z.length : Nat) = z.cps.toList.length := (codes_len z).symm
/-- _law_names(source, many) -/
def spNamesL : Sp := fun vs H Q _ => ∃ (a l : Addr) (ns : List Int) (many : Int), vs = [.ref a, .int many] ∧ SrcL H a l ns ∧ 1 ≤ many ∧ many ≤ 26 ∧ ∀ (H' : Hp) (p : Addr) (nms : List Str), H p = none → SrcL H' a l ns → But a H H' → H' p = some (.lst (nms.map V.str)) → nms.length = many.toNat → (∀ z ∈ nms, isName z = true) → nms.Nodup → Q (.ref p) H'
theorem ok__law_names (T : Txt P K mg) : FnOk P w K mg base CX0 3 T.f__law_names T.d__law_names ["_law_source_here", "_law_many"] spNamesL := by
  refine T.F__law_names.ok sc__law_names (fun vs H Q E h => ?_) (fun cdv A outer s H vs Q E hr h => ?_)
  · obtain ⟨a, l, ns, many, rfl, _⟩ := h
    rfl
  · obtain ⟨a, l, ns, many, rfl, S, m1, m14, q⟩ := h
    refine ⟨_, (pss_cons (ps_set (i := 2) sc__law_names.nd rfl (.inl rfl) pe_str)
      (pss_cons (ps_set (i := 3) sc__law_names.nd rfl (.inl rfl) (pe_call (okL__law_take T) (hr.mono (by decide)) rfl T.g__law_take T.F__law_take.kp T.b__law_take .nil pass0 (pa_cons (pv 0) (pa_cons pe_int pa_nil))))
      (pss_cons (ps_set (i := 4) sc__law_names.nd rfl (.inl rfl) (pe_op op_add pe_int (pe_call (okL__law_take T) (hr.mono (by decide)) rfl T.g__law_take T.F__law_take.kp T.b__law_take .nil pass0 (pa_cons (pv 0) (pa_cons pe_int pa_nil)))))
      (pss_cons (ps_set (i := 5) sc__law_names.nd rfl (.inl rfl) (pe_call (okL__law_take T) (hr.mono (by decide)) rfl T.g__law_take T.F__law_take.kp T.b__law_take .nil pass0 (pa_cons (pv 0) (pa_cons (pv 4) pa_nil))))
      (pss_cons (ps_set (i := 6) sc__law_names.nd rfl (.inl rfl) (pe_call (okL__law_word T) (hr.mono (by decide)) rfl T.g__law_word T.F__law_word.kp T.b__law_word .nil pass0 (pa_cons (pv 0) (pa_cons (pv 4) pa_nil))))
      (pss_cons (ps_set (i := 7) sc__law_names.nd rfl (.inl rfl) (pe_call (okL__law_take T) (hr.mono (by decide)) rfl T.g__law_take T.F__law_take.kp T.b__law_take .nil pass0 (pa_cons (pv 0) (pa_cons pe_int pa_nil))))
      (pss_cons (ps_set (i := 8) sc__law_names.nd rfl (.inl rfl) (pe_ix ix_list (pe_lst (pa_cons pe_int (pa_cons pe_int (pa_cons pe_int (pa_cons pe_int pa_nil))))) (pe_call (okL__law_take T) (hr.mono (by decide)) rfl T.g__law_take T.F__law_take.kp T.b__law_take .nil pass0 (pa_cons (pv 0) (pa_cons pe_int pa_nil))) (fun _ _ => rfl)))
      (pss_cons (ps_set (i := 9) sc__law_names.nd rfl (.inl rfl) (pe_lst pa_nil))
      (pss_cons (ps_for PassesOwn.never rfl (pi_range1 rfl T.n_range (pa_cons (pv 1) pa_nil)) (pg_name (i := 10) sc__law_names.nd rfl (.inl rfl)) (pss_cons (ps_set (i := 11) sc__law_names.nd rfl (.inl rfl) (pe_item_str (pv 2) (pe_op op_modN (pe_callTy call_int1 (by rfl) T.n_int (by decide +kernel) (pa_cons (pe_op op_add (pv 7) (pe_op op_mul (pv 8) (pv 10))) pa_nil)) pe_int) (fun _ _ => rfl)))
      (pss_one (ps_if (pt_cmpR op_eq (pv 3) pe_int (nomark _)) (pss_one (ps_expr (pe_bm PySem.F.plainAttrs_list PySem.F.slot_list_append PySem.F.type_list_append mt_append (pv 9) (pa_cons (pe_op op_add_str (pe_op op_add_str (pe_slice sl_str (pv 6) po_none (po_some (pv 5))) (pv 11)) (pe_slice sl_str (pv 6) (po_some (pe_op op_add (pv 5) pe_int)) po_none)) pa_nil)))) (pss_one (ps_if (pt_cmpR op_eq (pv 3) pe_int (nomark _)) (pss_one (ps_expr (pe_bm PySem.F.plainAttrs_list PySem.F.slot_list_append PySem.F.type_list_append mt_append (pv 9) (pa_cons (pe_op op_add_str (pv 11) (pe_slice sl_str (pv 6) (po_some pe_int) (po_some (pe_op op_add pe_int (pe_call (okL__law_take T) (hr.mono (by decide)) rfl T.g__law_take T.F__law_take.kp T.b__law_take .nil pass0 (pa_cons (pv 0) (pa_cons pe_int pa_nil))))))) pa_nil)))) (pss_one (ps_expr (pe_bm PySem.F.plainAttrs_list PySem.F.slot_list_append PySem.F.type_list_append mt_append (pv 9) (pa_cons (pe_op op_add_str (pe_op op_add_str (pe_slice sl_str (pv 6) po_none (po_some (pv 5))) (pv 11)) (pe_slice sl_str (pe_call (okL__law_word T) (hr.mono (by decide)) rfl T.g__law_word T.F__law_word.kp T.b__law_word .nil pass0 (pa_cons (pv 0) (pa_cons (pe_op op_sub pe_int (pv 5)) pa_nil))) po_none (po_some (pe_call (okL__law_take T) (hr.mono (by decide)) rfl T.g__law_take T.F__law_take.kp T.b__law_take .nil pass0 (pa_cons (pv 0) (pa_cons (pe_op op_sub pe_int (pv 5)) pa_nil)))))) pa_nil))))))))))
      (pss_one (ps_ret (pv 9)))))))))))), ?_⟩
    refine ⟨.ref a, rfl, a, 3, l, ns, rfl, S, by decide, by decide, fun H1 st st0 st1 S1 B1 => ?_⟩
    refine ⟨.ref a, rfl, a, 8, l, ns, rfl, S1, by decide, by decide, fun H2 n n0 n1 S2 B2 => ⟨_, _, rfl, rfl, ?_⟩⟩
    refine ⟨.ref a, rfl, _, rfl, a, 1 + n, l, ns, rfl, S2, by omega, by omega, fun H3 at_ t0 t1 S3 B3 => ?_⟩
    refine ⟨.ref a, rfl, _, rfl, a, l, ns, 1 + n, rfl, S3, by omega, by omega, fun H4 bs wb S4 B4 => ?_⟩
    refine ⟨.ref a, rfl, a, 26, l, ns, rfl, S4, by decide, by decide, fun H5 sh sh0 sh1 S5 B5 => ?_⟩
    refine ⟨(by show 4 ≤ sizeLine; decide), fun p0 hp0 => ⟨.ref a, rfl, a, 4, l, ns, rfl, srl_new S5 hp0, by decide, by decide, fun H6 r r0 r1 S6 B6 => ?_⟩⟩
    have B05 : But a H H5 := (((B1.trans B2).trans B3).trans B4).trans B5
    have hp06 : H6 p0 = some (.lst [.int 1, .int 5, .int 7, .int 25]) := B6 p0 _ (srl_off S5 hp0).1 upd_same
    obtain ⟨pc, hpc, pc0, pc1, pc4⟩ : ∃ pc : Int, ([V.int 1, .int 5, .int 7, .int 25] : List V)[r.toNat]? = some (.int pc) ∧ 0 ≤ pc ∧ pc ≤ 25 ∧ (pc = 1 ∨ pc = 5 ∨ pc = 7 ∨ pc = 25) := by
      have h2 : r = 0 ∨ r = 1 ∨ r = 2 ∨ r = 3 := by omega
      rcases h2 with rfl | rfl | rfl | rfl
      · exact ⟨1, rfl, by decide, by decide, by decide⟩
      · exact ⟨5, rfl, by decide, by decide, by decide⟩
      · exact ⟨7, rfl, by decide, by decide, by decide⟩
      · exact ⟨25, rfl, by decide, by decide, by decide⟩
    have B06 : But a H H6 := B05.trans fun b o n e => B6 b o n (by rw [upd_ne (ne_of_none e hp0)]; exact e)
    refine ⟨p0, _, r, _, rfl, rfl, SqL.of hp06, at_of (by omega) hpc, ?_⟩
    refine ⟨(by show 0 ≤ sizeLine; decide), fun p np => ?_⟩
    have offp := srl_off S6 np
    have np0 : H p = none := B06.fresh (srl_at S) np offp.1
    have wl : bs.cps.toList.length = (1 + n).toNat := wb.len
    have wt := wb.txt
    have wz : bs.length ≤ 8 := by rw [len_codes, wl]; omega
    refine ⟨_, rfl, many, rfl, by omega, by omega, for_range (lo := 0) (n := many.toNat) (fun i σ H' => ∃ (nms : List Str) (v10 v11 : Option V), σ = [some (.ref a), some (.int many), some (.str "abcdefghijklmnopqrstuvwxyz"), some (.int st), some (.int (1 + n)), some (.int at_), some (.str bs), some (.int sh), some (.int pc), some (.ref p), v10, v11] ∧
      SrcL H' a l ns ∧ But a H H' ∧ H' p = some (.lst (nms.map V.str)) ∧ nms.length = i ∧ (∀ z ∈ nms, isName z = true) ∧ ∀ (j : Nat) (hj : j < nms.length), (nms[j]).cps.toList[(if st = 1 then 0 else at_.toNat)]? = abc (sh + pc * (j : Int))) ⟨[], _, _, rfl, srl_new S6 np, B06.upd2 np0, upd_same, rfl, (fun z hz => (by cases hz)), fun j hj => absurd hj (by simp)⟩ ?_ ?_⟩
    · rintro i σ H7 hi ⟨nms, v10, v11, rfl, S7, B7, h7, cnt, ok, key⟩
      obtain ⟨c, hc, hl, tc⟩ := item_of (z := "abcdefghijklmnopqrstuvwxyz") (fmod_lo (sh + pc * (0 + (i : Int))) (m := 26) (by decide)) (fmod_hi (sh + pc * (0 + (i : Int))) (m := 26) (by decide)) (by decide) (by decide)
      have f1 := fmod_lo (sh + pc * (0 + (i : Int))) (m := 26) (by decide)
      have f2 := fmod_hi (sh + pc * (0 + (i : Int))) (m := 26) (by decide)
      have lc := ltr_at hc
      refine ⟨_, rfl, _, rfl, _, rfl, _, rfl, _, _, rfl, rfl, .inl ⟨by omega, by omega⟩, _, _, rfl, rfl, .inl ⟨_, rfl, _, _, rfl, rfl, (show (26 : Int) ≠ 0 by decide), _, _, c, rfl, rfl, f1, by omega, hl, hc, ?_⟩⟩
      -- the end of a turn
      have fin : ∀ H8 (z : Str), SrcL H8 a l ns → But a H H8 → H8 p = some (.lst (nms.map V.str)) → isName z = true → z.cps.toList[(if st = 1 then 0 else at_.toNat)]? = some c → ∃ (nms' : List Str) (v10 v11 : Option V), [some (V.ref a), some (.int many), some (.str "abcdefghijklmnopqrstuvwxyz"), some (.int st), some (.int (1 + n)), some (.int at_), some (.str bs), some (.int sh), some (.int pc), some (.ref p), some (V.int (0 + (i : Int))), some (V.str ⟨#[c]⟩)] = [some (.ref a), some (.int many), some (.str "abcdefghijklmnopqrstuvwxyz"), some (.int st), some (.int (1 + n)), some (.int at_), some (.str bs), some (.int sh), some (.int pc), some (.ref p), v10, v11] ∧
          SrcL (upd H8 p (.lst (nms.map V.str ++ [.str z]))) a l ns ∧ But a H (upd H8 p (.lst (nms.map V.str ++ [.str z]))) ∧ (upd H8 p (.lst (nms.map V.str ++ [.str z]))) p = some (.lst (nms'.map V.str)) ∧ nms'.length = i + 1 ∧ (∀ z ∈ nms', isName z = true) ∧ ∀ (j : Nat) (hj : j < nms'.length), (nms'[j]).cps.toList[(if st = 1 then 0 else at_.toNat)]? = abc (sh + pc * (j : Int)) :=
        fun H8 z S8 B8 h8 hz hk => ⟨nms ++ [z], _, _, rfl, srl_put S8 offp.1 offp.2, B8.upd2 np0, by rw [upd_same, List.map_append] <;> rfl, by rw [List.length_append, cnt] <;> rfl, (fun y hy => by
          rcases List.mem_append.mp hy with h | h
          · exact ok y h
          · have e : y = z := by simpa using h
            rw [e]; exact hz), fun j hj => by
          by_cases c1 : j < nms.length
          · rw [List.getElem_append_left c1]; exact key j c1
          · rw [List.length_append, List.length_singleton] at hj
            have e : j = i := by omega
            subst e
            rw [List.getElem_append_right (by omega)]
            simp only [cnt, Nat.sub_self, List.getElem_singleton]
            rw [hk, ← hc]
            unfold abc
            rw [Int.zero_add]⟩
      have few : (nms.map V.str).length < sizeLine := by rw [List.length_map, cnt]; exact Evl.sz_lt (by omega)
      refine ⟨_, rfl, rfl, _, rfl, ite2 (fun e => ?_) (fun e => ?_)⟩
      · refine ⟨.ref p, rfl, Or.inl ⟨rfl, _, SqL.of h7⟩, ?_⟩
        refine ⟨_, rfl, _, rfl, _, rfl, _, rfl, line_of (by omega), _, rfl, _, _, rfl, rfl, line_of ?_, _, rfl, _, rfl, _, _, rfl, rfl, _, rfl, _, rfl, line_of (by omega), _, _, rfl, rfl, line_of ?_, ?_⟩
        · have := len_codes (cutS bs none (some at_)); have := congrArg List.length (cut_to bs t0); rw [List.length_take] at this; show _ + 1 ≤ _; omega
        · have := len_codes (cutS bs none (some at_) ++ ⟨#[c]⟩); have e1 := congrArg List.length (app_codes (cutS bs none (some at_)) ⟨#[c]⟩); rw [List.length_append, cut_to bs t0, List.length_take] at e1
          have := len_codes (cutS bs (some (at_ + 1)) none); have e2 := congrArg List.length (cut_fr bs (i := at_ + 1) (by omega)); rw [List.length_drop] at e2
          have e3 : (⟨#[c]⟩ : Str).cps.toList.length = 1 := rfl
          omega
        · refine ⟨p, _, _, rfl, rfl, h7, few, fin H7 _ S7 B7 h7 ?_ ?_⟩
          · refine nm_of (l1 := bs.cps.toList.take at_.toNat) (l2 := bs.cps.toList.drop (at_ + 1).toNat) (c := c) ?_ (head_take wb.head _) (all_take wb.all _) (all_drop wb.all _) lc ?_
            · rw [app_codes, app_codes, cut_to bs t0, cut_fr bs (by omega)] <;> rfl
            · rw [List.length_take, List.length_drop]; omega
          · have st0 : st = 0 := V.int.inj (of_decide_eq_true e)
            rw [if_neg (by omega), app_codes, app_codes, cut_to bs t0]
            exact mid_at (by rw [List.length_take]; omega)
      · refine ⟨_, rfl, rfl, _, rfl, ite2 (fun e2 => ?_) (fun e2 => ?_)⟩
        · refine ⟨.ref p, rfl, Or.inl ⟨rfl, _, SqL.of h7⟩, ?_⟩
          refine ⟨_, rfl, _, rfl, 1, rfl, .ref a, rfl, a, 8, l, ns, rfl, S7, by decide, by decide, fun H8 tt t0' t1' S8 B8 => ⟨_, _, rfl, rfl, _, rfl, bs, rfl, line_of (by omega), _, _, rfl, rfl, line_of ?_, ?_⟩⟩
          · have := len_codes (cutS bs (some 1) (some (1 + tt))); have e3 := congrArg List.length (cut_mid bs (i := 1) (j := 1 + tt) (by decide) (by omega)); rw [List.length_take, List.length_drop] at e3
            show 1 + _ ≤ _; omega
          · refine ⟨p, _, _, rfl, rfl, B8 p _ offp.1 h7, few, fin H8 _ S8 (B7.trans B8) (B8 p _ offp.1 h7) ?_ ?_⟩
            · refine nm_of (l1 := []) (l2 := (bs.cps.toList.drop (1 : Int).toNat).take ((1 + tt).toNat - (1 : Int).toNat)) (c := c) ?_ (.inl rfl) rfl (all_take (all_drop wb.all _) _) lc ?_
              · rw [app_codes, cut_mid bs (by decide) (by omega)] <;> rfl
              · rw [List.length_take, List.length_drop]; show 0 + 1 + _ ≤ _; omega
            · rw [if_pos (V.int.inj (of_decide_eq_true e2)), app_codes]
              rfl
        · refine ⟨.ref p, rfl, Or.inl ⟨rfl, _, SqL.of h7⟩, ?_⟩
          refine ⟨_, rfl, _, rfl, _, rfl, _, rfl, line_of (by omega), _, rfl, _, _, rfl, rfl, line_of ?_, .ref a, rfl, _, rfl, _, _, rfl, rfl, a, l, ns, 8 - at_, rfl, S7, by omega, by omega, fun H8 wd ww S8 B8 => ?_⟩
          · have := len_codes (cutS bs none (some at_)); have := congrArg List.length (cut_to bs t0); rw [List.length_take] at this; show _ + 1 ≤ _; omega
          · have wwl := ww.len
            refine ⟨.ref a, rfl, _, rfl, _, _, rfl, rfl, a, 8 - at_, l, ns, rfl, S8, by omega, by omega, fun H9 tt t0' t1' S9 B9 => ⟨_, rfl, wd, rfl, line_of (by rw [len_codes]; omega), _, _, rfl, rfl, line_of ?_, ?_⟩⟩
            · have := len_codes (cutS bs none (some at_) ++ ⟨#[c]⟩); have e1 := congrArg List.length (app_codes (cutS bs none (some at_)) ⟨#[c]⟩); rw [List.length_append, cut_to bs t0, List.length_take] at e1
              have := len_codes (cutS wd none (some tt)); have e2 := congrArg List.length (cut_to wd t0'); rw [List.length_take] at e2
              have e3 : (⟨#[c]⟩ : Str).cps.toList.length = 1 := rfl
              omega
            · have h9 := B9 p _ offp.1 (B8 p _ offp.1 h7)
              refine ⟨p, _, _, rfl, rfl, h9, few, fin H9 _ S9 ((B7.trans B8).trans B9) h9 ?_ ?_⟩
              · refine nm_of (l1 := bs.cps.toList.take at_.toNat) (l2 := wd.cps.toList.take tt.toNat) (c := c) ?_ (head_take wb.head _) (all_take wb.all _) (all_take ww.all _) lc ?_
                · rw [app_codes, app_codes, cut_to bs t0, cut_to wd t0'] <;> rfl
                · rw [List.length_take, List.length_take]; omega
              · have st1 : st ≠ 1 := fun h => e2 (decide_eq_true (by rw [h]))
                rw [if_neg st1, app_codes, app_codes, cut_to bs t0]
                exact mid_at (by rw [List.length_take]; omega)
    · rintro σ H7 ⟨nms, v10, v11, rfl, S7, B7, h7, cnt, ok, key⟩
      exact ⟨_, rfl, q H7 p nms np0 S7 B7 h7 cnt ok (apart_names (by omega) pc4 key)⟩
section
open Evl
/-- [g(z) for z in a list of texts if p(z)] -/
theorem el_fmS {σ : L2.St} {H : Hp} {a : Addr} {L : List Str} {tl te : TE} {tt : TT} {j : Nat} {vs : List Nat} (p : Str → Bool) (g : Str → Str) (h : Ev tl σ H (.ref a)) (hx : H a = some (.lst (L.map V.str))) (hz : L.length ≤ 40000) (hw : ∀ x, wipe ((wipe σ vs).set j (some x)) vs = wipe σ vs)
    (ht : ∀ z ∈ L, ∀ H1, Ex H H1 → EvT tt ((wipe σ vs).set j (some (.str z))) H1 (p z)) (he : ∀ z ∈ L, p z = true → ∀ H1, Ex H H1 → Ev te ((wipe σ vs).set j (some (.str z))) H1 (.str (g z))) :
    EvL (tLc (iList K tl) (gName j) tt te vs) σ H (((L.filter p).map g).map V.str) := fun H0 e Q q => h H0 e _ fun H1 e1 => by
  have e01 := e.trans e1
  refine ⟨a, rfl, ⟨_, sq_of (e01 _ _ hx)⟩, fun D nD => lc_list (K := K) (xs := L.map V.str) (fun i H' => Ex H1 H' ∧ H' D = some (.lst ((((L.take i).filter p).map g).map V.str))) ⟨Ex.new nD, upd_same⟩ (fun i H' _ x => sq_of (x.1 _ _ (e01 _ _ hx))) ?_ ?_⟩
  · rintro i x H3 hi ⟨q1, q2⟩
    obtain ⟨z, hz', rfl⟩ : ∃ z, L[i]? = some z ∧ V.str z = x := by
      rw [List.getElem?_map] at hi
      cases e : L[i]? with
      | none => rw [e] at hi; cases hi
      | some z => rw [e] at hi; exact ⟨z, rfl, Option.some.inj hi⟩
    have m := List.mem_of_getElem? hz'
    refine ⟨hw _, ?_⟩
    refine ht z m H3 (e01.trans q1) H3 (Ex.refl _) _ fun H4 e4 => ?_
    cases c : p z with
    | true =>
      rw [if_pos rfl]
      refine he z m c H4 ((e01.trans q1).trans e4) H4 (Ex.refl _) _ fun H5 e5 => ⟨_, e5 _ _ (e4 _ _ q2), ?_, Ex.mut ((q1.trans e4).trans e5) nD, ?_⟩
      · rw [List.length_map, List.length_map]
        have l1 := List.length_filter_le p (L.take i)
        have l2 := List.length_take_le' i L
        exact sz_lt (by omega)
      · rw [upd_same, List.take_add_one, hz']
        simp [c]
    | false =>
      rw [if_neg (by decide)]
      refine ⟨q1.trans e4, ?_⟩
      rw [e4 _ _ q2, List.take_add_one, hz']
      simp [c]
  · rintro H3 ⟨q1, q2⟩
    rw [List.length_map, List.take_length] at q2
    exact q D H3 (fresh_back e1 nD) (e1.trans q1) q2
theorem et_yes {σ : L2.St} {H : Hp} : EvT tYes σ H true := fun H1 e Q q => q H1 (Ex.refl H1)
theorem el_mpS {σ : L2.St} {H : Hp} {a : Addr} {L : List Str} {tl te : TE} {j : Nat} {vs : List Nat} (g : Str → Str) (h : Ev tl σ H (.ref a)) (hx : H a = some (.lst (L.map V.str))) (hz : L.length ≤ 40000) (hw : ∀ x, wipe ((wipe σ vs).set j (some x)) vs = wipe σ vs)
    (he : ∀ z ∈ L, ∀ H1, Ex H H1 → Ev te ((wipe σ vs).set j (some (.str z))) H1 (.str (g z))) : EvL (tLc (iList K tl) (gName j) tYes te vs) σ H ((L.map g).map V.str) := by
  have z := el_fmS (K := K) (tt := tYes) (te := te) (fun _ => true) g h hx hz hw (fun _ _ _ _ => et_yes) (fun z m _ => he z m)
  rw [List.filter_eq_self.mpr (fun _ _ => rfl)] at z
  exact z
theorem q_forCBL {te : TE} {r : List V → Hp → VK → Prop} {xs : List V} {g : TG} {tb tz : TS} {D : Ends} {σ : L2.St} {H : Hp} (h : EvL te σ H xs) (k : ∀ p H1, H p = none → Ex H H1 → H1 p = some (.lst xs) → tFor (iList K (fun _ H Q => r [.ref p] H Q)) g tb { D with nx := tz D } σ H1) :
    tSeq (tFor (iList K (tCB r (tCons te tNil))) g tb) tz D σ H := h H (Ex.refl H) _ fun p H1 a b c => k p H1 a b c
theorem q_forCL {te : TE} {sp : Sp} {E : XK} {xs : List V} {g : TG} {tb tz : TS} {D : Ends} {σ : L2.St} {H : Hp} (h : EvL te σ H xs) (k : ∀ p H1, H p = none → Ex H H1 → H1 p = some (.lst xs) → tFor (iList K (fun _ H Q => sp [.ref p] H Q E)) g tb { D with nx := tz D } σ H1) :
    tSeq (tFor (iList K (tCall sp [] E (tCons te tNil))) g tb) tz D σ H := h H (Ex.refl H) _ fun p H1 a b c => k p H1 a b c
/-- _law_sorted(names) -/
def spSorted : Sp := fun vs H Q _ => ∃ (a : Addr) (L : List Str), vs = [.ref a] ∧ H a = some (.lst (L.map V.str)) ∧ L.length ≤ 60 ∧ ∀ N, Ord L N → RetL (N.map V.str) H Q
theorem ok__law_sorted (T : Txt P K mg) : FnOk P w K mg base CX0 1 T.f__law_sorted T.d__law_sorted ["_law_names_here"] spSorted := by
  refine T.F__law_sorted.ok sc__law_sorted (fun vs H Q E h => ?_) (fun cdv A outer s H vs Q E hr h => ?_)
  · obtain ⟨a, L, rfl, _⟩ := h
    rfl
  · obtain ⟨a, L, rfl, ha, few, q⟩ := h
    refine ⟨_, (pss_cons (ps_set (i := 1) sc__law_sorted.nd rfl (.inl rfl) (pe_lst pa_nil))
      (pss_cons (ps_for PassesOwn.never rfl (pi_list (pe_callB cr_sortedS (by rfl) T.n_sorted (by decide +kernel) (pa_cons (pe_lc (own := [("_law_each", 3)]) (g := gName 3) (by rfl) sc__law_sorted.nd (pi_list (pv 0)) (blkOk_by (own := [("_law_each", 3)]) (N := N__law_sorted) (sc := defScope s__law_sorted) (by decide +kernel)) (fun _ _ _ _ _ => pg_name (i := 3) sc__law_sorted.nd rfl (Or.inl rfl)) (fun _ _ _ _ _ => pts_nil) (fun _ _ _ _ _ => (pe_callTy SkE.call_str_str (by rfl) T.n_str (by decide +kernel) (pa_cons (pv 3) pa_nil)))) pa_nil))) (pg_name (i := 2) sc__law_sorted.nd rfl (.inl rfl)) (pss_one (ps_if (pt_cmpR op_notIn_seq (pv 2) (pv 1) (by rfl)) (pss_one (ps_expr (pe_bm PySem.F.plainAttrs_list PySem.F.slot_list_append PySem.F.type_list_append mt_append (pv 1) (pa_cons (pv 2) pa_nil)))) pss_nil)))
      (pss_one (ps_ret (pv 1))))), ?_⟩
    refine q_asgL (xs := []) (el_lst ea_nil (by decide)) (fun p H0 np e0 hp0 => ?_)
    have ha1 := e0 _ _ ha
    have copy : EvL (tLc (iList K (tVar 0)) (gName 3) tYes (tCB (fun xs H Q => ∃ a, xs = [V.str a] ∧ Q (.str a) H) (tCons (tVar 3) tNil)) [3]) [some (V.ref a), some (.ref p), none, none] H0 ((L.map fun z => z).map V.str) :=
      el_mpS (K := K) (fun z => z) (ev_var rfl) ha1 (by omega) (fun _ => rfl) (fun z m H1 e1 => ev_cb (ea_cons (ev_var rfl) ea_nil) fun H2 e2 Q q => ⟨z, rfl, q H2 (Ex.refl H2)⟩)
    rw [List.map_id'] at copy
    refine q_forCBL copy fun D H1 nD e1 hD => ⟨D, L, rfl, sq_of hD, by omega, fun ys r pm so nr => ?_⟩
    have od := dd_ord pm so
    have hp1 : H1 p = some (.lst []) := e1 _ _ hp0
    have rp : r ≠ p := fun z => by rw [z, hp1] at nr; cases nr
    have eH : Ex H (upd H1 r (.lst (ys.map V.str))) := (e0.trans e1).trans (Ex.new nr)
    refine ⟨r, rfl, ⟨_, sq_of upd_same⟩, for_list (K := K) (xs := ys.map V.str) (fun i σ H' => ∃ v2 : Option V, σ = [some (V.ref a), some (.ref p), v2, none] ∧ Ex H H' ∧ H' r = some (.lst (ys.map V.str)) ∧ H' p = some (.lst ((dd [] (ys.take i)).map V.str)))
      ⟨none, rfl, eH, upd_same, by rw [upd_ne rp.symm]; exact hp1⟩ (fun i σ H' _ ⟨_, _, _, h, _⟩ => sq_of h) ?_ ?_⟩
    · rintro i x σ H2 hi ⟨v2, rfl, e2, hr2, hp2⟩
      obtain ⟨z, hz, rfl⟩ : ∃ z, ys[i]? = some z ∧ V.str z = x := by
        rw [List.getElem?_map] at hi
        cases e : ys[i]? with
        | none => rw [e] at hi; cases hi
        | some z => rw [e] at hi; exact ⟨z, rfl, Option.some.inj hi⟩
      have step : dd [] (ys.take (i + 1)) = if z ∈ dd [] (ys.take i) then dd [] (ys.take i) else dd [] (ys.take i) ++ [z] := by
        rw [List.take_add_one, hz]; exact dd_step [] _ z
      have dl : (dd [] (ys.take i)).length ≤ 60 := by
        have so2 := pw_sorted ys so
        obtain ⟨_, nd, mm⟩ := dd_spec (ys.take i) [] .nil (so2.sublist (List.take_sublist i ys))
        have l1 := perm_len_le (m := ys.take i) nd fun x hx => by simpa using (mm x).mp hx
        have l2 := List.length_take_le' i ys
        have l3 := pm.length_eq
        omega
      refine s_when (et_test (ev_niStr (ev_var rfl) (ev_var rfl) hp2)) (fun c H3 e3 => ?_) (fun c H3 e3 => ?_)
      · have c2 : z ∉ dd [] (ys.take i) := by simpa using c
        refine s_app (K := K) (e3 _ _ hp2) (ev_var rfl) (ev_var rfl) (by rw [List.length_map]; omega) fun H4 e4 => ⟨_, rfl, Ex.mut ((e2.trans e3).trans e4) np, ?_, ?_⟩
        · rw [upd_ne rp]; exact e4 _ _ (e3 _ _ hr2)
        · rw [upd_same, step, if_neg c2, List.map_append] <;> rfl
      · have c2 : z ∈ dd [] (ys.take i) := by simpa using c
        exact ⟨_, rfl, e2.trans e3, e3 _ _ hr2, by rw [step, if_pos c2]; exact e3 _ _ hp2⟩
    · rintro σ H2 ⟨v2, rfl, e2, hr2, hp2⟩
      rw [List.length_map, List.take_length] at hp2
      exact ⟨_, rfl, q _ od p H2 np e2 hp2⟩
theorem minus_len {n : Str} (h : n.cps.size ≤ 50) : ("-" : Str).length + n.length ≤ 1000 := by
  have h1 : ("-" : Str).length = 1 := by decide
  have h2 : n.length = n.cps.size := rfl
  omega
/-- _law_ordered(literals) -/
def spOrdered : Sp := fun vs H Q _ => ∃ (a : Addr) (L : List Str), vs = [.ref a] ∧ H a = some (.lst (L.map V.str)) ∧ L.length ≤ 40 ∧ (∀ z ∈ L, z.cps.size ≤ 50) ∧ ∀ N, Ord (L.map bare) N → RetL ((due L N).map V.str) H Q
theorem due_len {L N : List Str} : (due L N).length ≤ 2 * N.length := by
  have z := List.length_filter_le (fun z => decide (z ∈ L)) (N.flatMap twoOf)
  rw [pick_all, two_len] at z
  exact z
theorem due_step {L N : List Str} {i : Nat} {n : Str} (h : N[i]? = some n) : due L (N.take (i + 1)) = (due L (N.take i) ++ (if n ∈ L then [n] else [])) ++ (if "-" ++ n ∈ L then ["-" ++ n] else []) := by
  unfold due
  rw [List.take_add_one, h, List.flatMap_append, List.append_assoc]
  congr 1
  show ([n].flatMap (pick L)) = _
  unfold pick
  by_cases h1 : n ∈ L <;> by_cases h2 : "-" ++ n ∈ L <;> simp [h1, h2]
theorem ok__law_ordered (T : Txt P K mg) : FnOk P w K mg base CX0 2 T.f__law_ordered T.d__law_ordered ["_law_literals"] spOrdered := by
  refine T.F__law_ordered.ok sc__law_ordered (fun vs H Q E h => ?_) (fun cdv A outer s H vs Q E hr h => ?_)
  · obtain ⟨a, L, rfl, _⟩ := h
    rfl
  · obtain ⟨a, L, rfl, ha, few, short, q⟩ := h
    refine ⟨_, (pss_cons (ps_set (i := 1) sc__law_ordered.nd rfl (.inl rfl) (pe_lst pa_nil))
      (pss_cons (ps_for PassesOwn.never rfl (pi_list (pe_call (ok__law_sorted T) (hr.mono (by decide)) rfl T.g__law_sorted T.F__law_sorted.kp T.b__law_sorted .nil pass0 (pa_cons (pe_lc (own := [("_law_each", 3)]) (g := gName 3) (by rfl) sc__law_ordered.nd (pi_list (pv 0)) (blkOk_by (own := [("_law_each", 3)]) (N := N__law_ordered) (sc := defScope s__law_ordered) (by decide +kernel)) (fun _ _ _ _ _ => pg_name (i := 3) sc__law_ordered.nd rfl (Or.inl rfl)) (fun _ _ _ _ _ => pts_nil) (fun _ _ _ _ _ => (pe_call (ok__law_name T) (hr.mono (by decide)) rfl T.g__law_name T.F__law_name.kp T.b__law_name .nil pass0 (pa_cons (pv 3) pa_nil)))) pa_nil))) (pg_name (i := 2) sc__law_ordered.nd rfl (.inl rfl)) (pss_cons (ps_if (pt_cmpR op_in_seq (pv 2) (pv 0) (by rfl)) (pss_one (ps_expr (pe_bm PySem.F.plainAttrs_list PySem.F.slot_list_append PySem.F.type_list_append mt_append (pv 1) (pa_cons (pv 2) pa_nil)))) pss_nil)
      (pss_one (ps_if (pt_cmpR op_in_seq (pe_op op_add_str pe_str (pv 2)) (pv 0) (by rfl)) (pss_one (ps_expr (pe_bm PySem.F.plainAttrs_list PySem.F.slot_list_append PySem.F.type_list_append mt_append (pv 1) (pa_cons (pe_op op_add_str pe_str (pv 2)) pa_nil)))) pss_nil))))
      (pss_one (ps_ret (pv 1))))), ?_⟩
    refine q_asgL (xs := []) (el_lst ea_nil (by decide)) (fun p H0 np e0 hp0 => ?_)
    have ha1 := e0 _ _ ha
    have copy : EvL (tLc (iList K (tVar 0)) (gName 3) tYes (tCall (spPure fun z => .str (bare z)) [] E0 (tCons (tVar 3) tNil)) [3]) [some (V.ref a), some (.ref p), none, none] H0 ((L.map bare).map V.str) :=
      el_mpS (K := K) bare (ev_var rfl) ha1 (by omega) (fun _ => rfl) (fun z m H1 e1 => ev_call (ea_cons (ev_var rfl) ea_nil) fun H2 e2 Q q E => ⟨z, rfl, Nat.le_trans (short z m) (by decide), q⟩)
    refine q_forCL copy fun D H1 nD e1 hD => ⟨D, L.map bare, rfl, hD, by rw [List.length_map]; omega, fun N od r H2 nr e2 hr2 => ?_⟩
    have hp1 : H1 p = some (.lst []) := e1 _ _ hp0
    have hp2 := e2 _ _ hp1
    have rp : r ≠ p := fun z => by rw [z, hp1] at nr; cases nr
    have eH : Ex H H2 := (e0.trans e1).trans e2
    have nl : N.length ≤ 40 := by
      have l1 := perm_len_le od.nd fun x hx => (od.mem x).mp hx
      rw [List.length_map] at l1; omega
    have ns : ∀ n ∈ N, n.cps.size ≤ 50 := fun n hn => by
      obtain ⟨z, hz, rfl⟩ := List.mem_map.mp ((od.mem n).mp hn)
      exact Nat.le_trans (bare_len z) (short z hz)
    refine ⟨r, rfl, ⟨_, sq_of hr2⟩, for_list (K := K) (xs := N.map V.str) (fun i σ H' => ∃ v2 : Option V, σ = [some (V.ref a), some (.ref p), v2, none] ∧ Ex H H' ∧ H' r = some (.lst (N.map V.str)) ∧ H' p = some (.lst ((due L (N.take i)).map V.str)))
      ⟨none, rfl, eH, hr2, hp2⟩ (fun i σ H' _ ⟨_, _, _, h, _⟩ => sq_of h) ?_ ?_⟩
    · rintro i x σ H3 hi ⟨v2, rfl, e3, hr3, hp3⟩
      obtain ⟨n, hn, rfl⟩ : ∃ z, N[i]? = some z ∧ V.str z = x := by
        rw [List.getElem?_map] at hi
        cases e : N[i]? with
        | none => rw [e] at hi; cases hi
        | some z => rw [e] at hi; exact ⟨z, rfl, Option.some.inj hi⟩
      have nn := ns n (List.mem_of_getElem? hn)
      have dl : (due L (N.take i)).length ≤ 80 := by
        have l1 := due_len (L := L) (N := N.take i)
        have l2 := List.length_take_le' i N
        omega
      have minus : ∀ {σ : L2.St} {H : Hp}, σ[2]? = some (some (V.str n)) → Ev (tOp (fun x y H Q => ∃ i j, x = V.str i ∧ y = V.str j ∧ i.length + j.length ≤ sizeLine ∧ Q (V.str (i ++ j)) H) (tC (.str "-")) (tVar 2)) σ H (.str ("-" ++ n)) := fun h => ev_op ev_c (ev_var h) (fun H1 _ Q q => ⟨"-", n, rfl, rfl, line_of (minus_len nn), q H1 (Ex.refl H1)⟩)
      have ha3 := e3 _ _ ha
      have second : ∀ H4 (W : List Str), W.length ≤ 90 → Ex H H4 → H4 r = some (.lst (N.map V.str)) → H4 p = some (.lst (W.map V.str)) → ∀ (D : Ends), (∀ H5, Ex H H5 → H5 r = some (.lst (N.map V.str)) → H5 p = some (.lst ((W ++ (if "-" ++ n ∈ L then ["-" ++ n] else [])).map V.str)) → D.nx [some (V.ref a), some (.ref p), some (.str n), none] H5) →
          tIfS (tTest (tOp (rIn K false) (tOp (fun x y H Q => ∃ i j, x = V.str i ∧ y = V.str j ∧ i.length + j.length ≤ sizeLine ∧ Q (V.str (i ++ j)) H) (tC (.str "-")) (tVar 2)) (tVar 0))) (tDrop (tBM K "list" rAppend (tVar 1) (tCons (tOp (fun x y H Q => ∃ i j, x = V.str i ∧ y = V.str j ∧ i.length + j.length ≤ sizeLine ∧ Q (V.str (i ++ j)) H) (tC (.str "-")) (tVar 2)) tNil))) tNext D [some (V.ref a), some (.ref p), some (.str n), none] H4 := fun H4 W hW e4 h4 hp4 D k => by
        refine s_when (et_test (ev_inStr (minus rfl) (ev_var rfl) (e4 _ _ ha))) (fun c H5 e5 => ?_) (fun c H5 e5 => ?_)
        · have c2 : "-" ++ n ∈ L := by simpa using c
          refine s_app (K := K) (e5 _ _ hp4) (ev_var rfl) (minus rfl) (by rw [List.length_map]; omega) fun H6 e6 => k _ (Ex.mut ((e4.trans e5).trans e6) np) ?_ ?_
          · rw [upd_ne rp]; exact e6 _ _ (e5 _ _ h4)
          · rw [upd_same, if_pos c2, List.map_append] <;> rfl
        · have c2 : "-" ++ n ∉ L := by simpa using c
          refine k _ (e4.trans e5) (e5 _ _ h4) ?_
          rw [if_neg c2, List.append_nil]; exact e5 _ _ hp4
      refine q_when (et_test (ev_inStr (ev_var rfl) (ev_var rfl) ha3)) (fun c H4 e4 => ?_) (fun c H4 e4 => ?_)
      · have c2 : n ∈ L := by simpa using c
        refine s_app (K := K) (e4 _ _ hp3) (ev_var rfl) (ev_var rfl) (by rw [List.length_map]; omega) fun H5 e5 => ?_
        refine second _ (due L (N.take i) ++ [n]) (by rw [List.length_append]; show _ + 1 ≤ _; omega) (Ex.mut ((e3.trans e4).trans e5) np) (by rw [upd_ne rp]; exact e5 _ _ (e4 _ _ hr3)) (by rw [upd_same, List.map_append] <;> rfl) _ fun H6 e6 hr6 hp6 => ⟨_, rfl, e6, hr6, ?_⟩
        rw [hp6, due_step hn, if_pos c2]
      · have c2 : n ∉ L := by simpa using c
        refine second _ (due L (N.take i)) (by omega) (e3.trans e4) (e4 _ _ hr3) (e4 _ _ hp3) _ fun H6 e6 hr6 hp6 => ⟨_, rfl, e6, hr6, ?_⟩
        rw [hp6, due_step hn, if_neg c2, List.append_nil]
    · rintro σ H3 ⟨v2, rfl, e3, hr3, hp3⟩
      rw [List.length_map, List.take_length] at hp3
      exact ⟨_, rfl, q N od p H3 np e3 hp3⟩
end
theorem name_dash {z : Str} (h : isName z = true) : dash z = false := by
  obtain ⟨_, _, hd, _⟩ := name_len h
  unfold dash dashL
  cases e : z.cps.toList with
  | nil => rfl
  | cons c r =>
    rw [e] at hd
    have z1 : ltr c = true := hd
    cases q : ((c :: r).head? == some 45) with
    | false => rfl
    | true =>
      have e2 : c = 45 := by simpa using q
      rw [e2] at z1
      exact absurd z1 (by decide)
theorem name_lit {z : Str} (h : isName z = true) : isLit z = true := by unfold isLit; rw [bare_no (name_dash h)]; exact h
theorem minus_codes (z : Str) : ("-" ++ z).cps.toList = 45 :: z.cps.toList := by rw [app_codes]; rfl
theorem bare_minus (z : Str) : bare ("-" ++ z) = z := by
  have hd : dash ("-" ++ z) = true := by unfold dash; rw [minus_codes]; rfl
  unfold bare
  rw [if_pos hd, minus_codes]
  rfl
theorem minus_lit {z : Str} (h : isName z = true) : isLit ("-" ++ z) = true := by unfold isLit; rw [bare_minus]; exact h
theorem lit_form {z : Str} : z = bare z ∨ z = "-" ++ bare z := by
  cases h : dash z with
  | false => exact .inl (bare_no h).symm
  | true =>
    refine .inr (str_eq ?_)
    rw [minus_codes]
    unfold bare
    rw [if_pos h]
    show z.cps.toList = 45 :: z.cps.toList.drop 1
    unfold dash dashL at h
    cases e : z.cps.toList with
    | nil => rw [e] at h; cases h
    | cons c r =>
      rw [e] at h
      have e2 : c = 45 := by simpa using h
      rw [e2]
      rfl
theorem due_mem {L N : List Str} (od : Ord (L.map bare) N) (z : Str) : z ∈ due L N ↔ z ∈ L := by
  unfold due pick
  rw [List.mem_flatMap]
  constructor
  · rintro ⟨n, _, h⟩
    exact of_decide_eq_true (List.mem_filter.mp h).2
  · intro h
    refine ⟨bare z, (od.mem _).mpr (List.mem_map.mpr ⟨z, h, rfl⟩), List.mem_filter.mpr ⟨?_, decide_eq_true h⟩⟩
    rcases lit_form (z := z) with e | e
    · rw [← e]; exact List.mem_cons_self
    · exact List.mem_cons_of_mem _ (List.mem_singleton.mpr e)
/-! ### Clause.__init__ -/
/-- the name n stands in L in both signs -/
def bothIn (L : List Str) (n : Str) : Bool := decide (n ∈ L) && decide ("-" ++ n ∈ L)
theorem bare_pick {L : List Str} {n z : Str} (hn : dash n = false) (h : z ∈ pick L n) : bare z = n ∧ z ∈ L := by
  obtain ⟨h1, h2⟩ := List.mem_filter.mp h
  refine ⟨?_, of_decide_eq_true h2⟩
  rcases List.mem_cons.mp h1 with e | e
  · rw [e]; exact bare_no hn
  · rw [List.mem_singleton.mp e]; exact bare_minus n
/-- the first name in both signs, found among the literals -/
theorem find_both {L : List Str} : ∀ {N : List Str}, (∀ n ∈ N, dash n = false) → (due L N).find? (fun z => bothIn L (bare z)) = N.find? (bothIn L)
  | [], _ => rfl
  | n :: r, h => by
    have ih := find_both (L := L) (N := r) fun m hm => h m (List.mem_cons_of_mem _ hm)
    have hd := h n List.mem_cons_self
    show ((n :: r).flatMap (pick L)).find? _ = _
    rw [List.flatMap_cons, List.find?_append, List.find?_cons]
    cases b : bothIn L n with
    | true =>
      have hn : n ∈ L := by unfold bothIn at b; simp at b; exact b.1
      have e : (pick L n).find? (fun z => bothIn L (bare z)) = some n := by
        unfold pick
        rw [List.filter_cons, if_pos (decide_eq_true hn), List.find?_cons, bare_no hd, b]
      rw [e]
      rfl
    | false =>
      have e : (pick L n).find? (fun z => bothIn L (bare z)) = none := List.find?_eq_none.mpr fun z hz => by
        rw [(bare_pick hd hz).1, b]; decide
      rw [e]
      exact ih
theorem flip_in {L : List Str} {z : Str} (hz : z ∈ L) (hd : dash (bare z) = false) : decide (flip z ∈ L) = bothIn L (bare z) := by
  unfold bothIn
  cases h : dash z with
  | false =>
    rw [flip_no h]
    have e := bare_no h
    rw [e]
    simp [hz]
  | true =>
    rw [flip_dash h]
    have e : "-" ++ bare z = z := by
      rcases lit_form (z := z) with q | q
      · rw [← q, h] at hd; cases hd
      · exact q.symm
    rw [e]
    simp [hz]
/-- Clause.__init__(self, *literals) -/
def spCl (C CB CS CT : Addr) : Sp := fun vs H Q E => ∃ (x dx t : Addr) (L : List Str), vs = [.ref x, .ref t] ∧ H x = some (.ins C dx []) ∧ H t = some (.tup (L.map V.str)) ∧ L.length ≤ 90 ∧ (∀ z ∈ L, Txt8 99 z) ∧
  (∀ pre z post, L = pre ++ z :: post → (∀ y ∈ pre, isLit y = true) → isLit z = false → ∀ H' d, Evl.Ex H H' → H' d = some (.xd [("text", .str z)]) → E (.ref CB) (some d) H') ∧
  ((∀ z ∈ L, isLit z = true) → ∀ N, Ord (L.map bare) N →
    (∀ n, N.find? (bothIn L) = some n → ∀ H' d, Evl.Ex H H' → H' d = some (.xd [("name", .str n)]) → E (.ref CS) (some d) H') ∧
    (N.find? (bothIn L) = none → 6 < (due L N).length → ∀ H' d, Evl.Ex H H' → H' d = some (.xd [("limit", .int 6)]) → E (.ref CT) (some d) H') ∧
    (N.find? (bothIn L) = none → (due L N).length ≤ 6 → ∀ H' p, (∀ c o, c ≠ x → H c = some o → H' c = some o) → H p = none → H' x = some (.ins C dx [("literals", .ref p)]) → H' p = some (.tup ((due L N).map V.str)) → Q .non H'))
theorem lit_bare {z : Str} (h : isLit z = true) : isName (bare z) = true := h
theorem find_cong {f g : Str → Bool} : ∀ {D : List Str}, (∀ z ∈ D, f z = g z) → D.find? f = D.find? g
  | [], _ => rfl
  | z :: r, h => by
    rw [List.find?_cons, List.find?_cons, h z List.mem_cons_self, find_cong fun y hy => h y (List.mem_cons_of_mem _ hy)]
/-- check_signs(ordered) -/
def spSigns (CS : Addr) : Sp := fun vs H Q E => ∃ (b : Addr) (D : List Str), vs = [.ref b] ∧ H b = some (.lst (D.map V.str)) ∧ (∀ z ∈ D, isLit z = true ∧ z.cps.size ≤ 99 ∧ ∀ c ∈ z.cps.toList, c < 128) ∧
  (∀ z, D.find? (fun z => decide (flip z ∈ D)) = some z → ∀ H' d, Evl.Ex H H' → H' d = some (.xd [("name", .str (bare z))]) → E (.ref CS) (some d) H') ∧
  (D.find? (fun z => decide (flip z ∈ D)) = none → ∀ H', Evl.Ex H H' → Q .non H')
theorem pick_str {D : List Str} {i : Nat} {y : V} (hi : (D.map V.str)[i]? = some y) : ∃ z, D[i]? = some z ∧ V.str z = y := by
  rw [List.getElem?_map] at hi
  cases e : D[i]? with
  | none => rw [e] at hi; cases hi
  | some z => rw [e] at hi; exact ⟨z, rfl, Option.some.inj hi⟩
/-- the first one that meets a test, when all before it do not -/
theorem find_at1 {D : List Str} {f : Str → Bool} {i : Nat} {z : Str} (hz : D[i]? = some z) (no : ∀ y ∈ D.take i, f y = false) (yes : f z = true) : D.find? f = some z := by
  have lt := (List.getElem?_eq_some_iff.mp hz).1
  have q := (List.getElem?_eq_some_iff.mp hz).2
  have z2 : D.drop i = z :: D.drop (i + 1) := by rw [List.drop_eq_getElem_cons lt, q]
  have e0 : D = D.take i ++ z :: D.drop (i + 1) := by rw [← z2, List.take_append_drop]
  rw [e0, List.find?_append, List.find?_eq_none.mpr (fun y hy => by rw [no y hy]; decide), List.find?_cons, yes]
  rfl
open Evl in
theorem ok_check_signs (T : Txt P K mg) : FnOk P w K mg base (L2N.CX P w) 7 T.f_check_signs T.d_check_signs ["ordered"] (spSigns T.C_BothSigns) := by
  refine T.F_check_signs.okN sc_check_signs (fun vs H Q E h => ?_) (fun cdv A outer s H vs Q E hr h => ?_)
  · obtain ⟨b, D, rfl, _⟩ := h
    rfl
  · obtain ⟨b, D, rfl, hb, lits, bad, good⟩ := h
    refine ⟨_, (pss_one (ps_for PassesOwn.leaving rfl (pi_list (pv 0)) (pg_name (i := 1) sc_check_signs.nd rfl (.inl rfl)) (pss_one (ps_if (pt_cmpR op_in_seq (pe_call (ok_negated T) (hr.mono (by decide)) rfl T.g_negated T.F_negated.kp T.b_negated .nil (L2N.passes_call (L2N.takes_of rfl rfl rfl rfl) (fun _ _ _ _ h => h)) (pa_cons (pv 1) pa_nil)) (pv 0) (by rfl))
      (pss_one (L2N.ps_raise rfl (L2N.takes_of rfl rfl rfl rfl) (pmk1 T.E_BothSigns rfl fld_name T.o_BothSigns hr (pa_cons (pe_call (ok_name_of T) (hr.mono (by decide)) rfl T.g_name_of T.F_name_of.kp T.b_name_of .nil (L2N.passes_call (L2N.takes_of rfl rfl rfl rfl) (fun _ _ _ _ h => h)) (pa_cons (pv 1) pa_nil)) pa_nil) rfl (by decide)))) pss_nil)))), ?_⟩
    refine ⟨_, rfl, b, rfl, ⟨_, sq_of hb⟩, for_list (K := K) (xs := D.map V.str) (fun i σ H' => ∃ v1 : Option V, σ = [some (V.ref b), v1] ∧ Ex H H' ∧ ∀ z ∈ D.take i, decide (flip z ∈ D) = false)
      ⟨_, rfl, Ex.refl _, fun z hz => by simp at hz⟩ (fun i σ H' _ ⟨_, _, e, _⟩ => sq_of (e _ _ hb)) ?_ ?_⟩
    · rintro i y σ H2 hi ⟨v1, rfl, e2, no⟩
      obtain ⟨z, hz, rfl⟩ := pick_str hi
      have zD : z ∈ D := List.mem_of_getElem? hz
      obtain ⟨zl, zs, zc⟩ := lits z zD
      refine ⟨_, rfl, z, rfl, zs, zc, fun _ H3 e3 => ⟨_, rfl, (rv_isL (K := K) (sq_of (e3 _ _ (e2 _ _ hb))) rfl (flat_str _)) H3 (Ex.refl _) _ fun H4 e4 => ?_⟩, fun no => absurd zl (by rw [no]; decide)⟩
      rw [in_map]
      cases bz : decide (flip z ∈ D) with
      | true =>
        refine ⟨_, rfl, iteT ?_⟩
        refine ⟨_, rfl, z, rfl, zs, zc, fun _ H5 e5 => ⟨_, rfl, fun u hu => ?_, fun d nd => ?_⟩, fun no => absurd zl (by rw [no]; decide)⟩
        · obtain ⟨tk, rfl⟩ := hu
          refine msg_sc fld_name (by decide) ?_
          have h8 := (name_txt (lit_bare zl)).1
          have e : (bare z).length = (bare z).cps.size := rfl
          omega
        · exact bad z (find_at1 hz no bz) _ d ((((e2.trans e3).trans e4).trans e5).trans (Ex.new nd)) upd_same
      | false =>
        refine ⟨_, rfl, iteF ?_⟩
        refine ⟨_, rfl, (e2.trans e3).trans e4, fun y hy => ?_⟩
        rw [List.take_add_one, hz] at hy
        rcases List.mem_append.mp hy with h | h
        · exact no y h
        · have e : y = z := by simpa using h
          rw [e]; exact bz
    · rintro σ H2 ⟨v1, rfl, e2, no⟩
      rw [List.length_map, List.take_length] at no
      exact good (List.find?_eq_none.mpr fun z hz => by rw [no z hz]; decide) H2 e2
open Evl in
theorem okR_Clause_init (T : Txt P K mg) : FnR P w K mg base (L2N.CX P w) 8 T.f_Clause_init (fun vs H Q E => ∃ ws rest, vs = ws ++ rest ∧ ws.length = ["self"].length ∧ rest.length ≤ sizeLine ∧ ∀ p, H p = none → spCl T.C_Clause T.C_BadLiteral T.C_BothSigns T.C_TooMany (ws ++ [V.ref p]) (upd H p (.tup rest)) Q E) := by
  refine T.F_Clause_init.okStar (ps := ["self"]) sc_Clause_init (fun kV doc pm an cdv ct => StX.bind_star1 (B := fun us => bindArgs (PySem.W.fnOf "__init__" "Clause.__init__" (defArgs s_Clause_init) (defBody s_Clause_init) (defScope s_Clause_init) .none kV doc pm an cdv ct) ⟨us, []⟩) (p1 := "self") (pv := "literals") (fun a => rfl) (fun a r rs => rfl)) (fun cdv A outer s H vs Q E hr h => ?_)
  obtain ⟨x, dx, t, L, rfl, hx, ht, few, txt, bad, good⟩ := h
  obtain ⟨u6, cv6⟩ := T.V_Clause_LIMIT
  refine ⟨_, (pss_cons (ps_set (i := 2) sc_Clause_init.nd rfl (.inl rfl) (pe_call (okT_in_order T) (hr.mono (by decide)) rfl T.g_in_order T.F_in_order.kp T.b_in_order .nil (L2N.passes_call (L2N.takes_of rfl rfl rfl rfl) (fun _ _ _ _ h => h)) (pa_cons (pv 1) pa_nil)))
    (pss_cons (ps_expr (pe_call (ok_check_signs T) (hr.mono (by decide)) rfl T.g_check_signs T.F_check_signs.kp T.b_check_signs .nil (L2N.passes_call (L2N.takes_of rfl rfl rfl rfl) (fun _ _ _ _ h => h)) (pa_cons (pv 2) pa_nil)))
    (pss_cons (ps_if (pt_cmpR op_gt (pe_callB call_len_seq (by rfl) T.n_len PySem.boot_len (pa_cons (pv 2) pa_nil)) (ClX.pe_cval (pe_glob (v := .ref T.C_Clause) rfl T.g_Clause rfl)) (nomark _))
      (pss_one (L2N.ps_raise rfl (L2N.takes_of rfl rfl rfl rfl) (pmk1 T.E_TooMany rfl fld_limit T.o_TooMany hr (pa_cons (ClX.pe_cval (pe_glob (v := .ref T.C_Clause) rfl T.g_Clause rfl)) pa_nil) rfl (by decide)))) pss_nil)
    (pss_one (ps_fld (pv 0) (pe_callTy call_tuple_of (by rfl) T.n_tuple (by decide +kernel) (pa_cons (pv 2) pa_nil)) rfl))))), ?_⟩
  have short : ∀ z ∈ L, z.cps.size ≤ 99 ∧ ∀ c ∈ z.cps.toList, c < 128 := fun z hz => ⟨Nat.le_trans (txt z hz).1 (by decide), (txt z hz).2⟩
  refine ⟨_, rfl, t, L, rfl, ht, by omega, short, fun lits N od b H1 nb e1 hb => ?_, bad⟩
  obtain ⟨sign, many, fin⟩ := good lits N od
  have ndash : ∀ n ∈ N, dash n = false := fun n hn => by
    obtain ⟨z, hz, rfl⟩ := List.mem_map.mp ((od.mem n).mp hn)
    exact name_dash (lit_bare (lits z hz))
  have dmem := due_mem od
  have found : (due L N).find? (fun z => decide (flip z ∈ due L N)) = N.find? (bothIn L) := by
    rw [← find_both (L := L) ndash]
    refine find_cong fun z hz => ?_
    have zL := (dmem z).mp hz
    rw [← flip_in zL (name_dash (lit_bare (lits z zL)))]
    exact decide_eq_decide.mpr (dmem _)
  refine ⟨_, rfl, b, due L N, rfl, hb, fun z hz => ⟨lits z ((dmem z).mp hz), short z ((dmem z).mp hz)⟩, fun z fz H' d e hd => ?_, fun none H2 e2 => ?_⟩
  · rw [found] at fz
    have zn : z ∈ N := List.mem_of_find?_eq_some fz
    rw [bare_no (ndash z zn)] at hd
    exact sign z fz H' d (e1.trans e) hd
  · rw [found] at none
    have hx2 := e2 _ _ (e1 _ _ hx)
    have hb2 := e2 _ _ hb
    refine ⟨_, rfl, b, _, rfl, .inl (SqL.of hb2), T.C_Clause, .type "type", .int 6, u6, rfl, T.R_Clause, cv6, _, _, rfl, rfl, _, rfl, ite2 (fun big => ?_) (fun big => ?_)⟩
    · have big2 : 6 < (due L N).length := by
        have z := of_decide_eq_true big
        rw [List.length_map] at z
        omega
      refine ⟨T.C_Clause, .type "type", .int 6, u6, rfl, T.R_Clause, cv6, _, rfl, fun u hu => ?_, fun d nd => many none big2 _ d ((e1.trans e2).trans (Ex.new nd)) upd_same⟩
      obtain ⟨tk, rfl⟩ := hu
      exact msg_ci fld_limit (by decide) (by decide) (by decide)
    · have big2 : (due L N).length ≤ 6 := Nat.le_of_not_lt fun h => big (decide_eq_true (by rw [List.length_map]; omega))
      refine ⟨_, rfl, b, _, rfl, .inl ⟨SqL.of hb2, fun p np => ⟨.ref x, rfl, x, _, dx, _, rfl, (by rw [upd_ne (ne_of_none hx2 np)]; exact hx2), T.cl_Clause, T.na_Clause_literals, (by show 0 < 1000; decide), ?_⟩⟩⟩
      have xp : p ≠ x := fun e => by rw [e, hx2] at np; cases np
      refine fin none big2 _ p (fun c o nc hc => ?_) (fresh_back (e1.trans e2) np) upd_same (by rw [upd_ne xp, upd_same])
      rw [upd_ne nc, upd_ne (ne_of_none (e2 _ _ (e1 _ _ hc)) np)]
      exact e2 _ _ (e1 _ _ hc)
/-! ### Clause(..) of 0 to 8 strings -/
section
open Evl
theorem pe_makeR0 {X : Cx} {CX : CXT} {k : Nat} {f C : Addr} {sp : Sp} {E : XK} {x : Str} {p pos : Pos} (M : Mk X.K C f) (F : FnR X.prog X.w X.K X.mg X.base CX k f sp) (hr : Room (k + 1) X.A) (hg : Gl X x) (hm : X.mg x = some (.ref C)) (hx : Passes CX X E) (hdb : (x == ("__debug__" : Str)) = false := by decide) :
    PE X (.Call (.Name x p) [] [] pos) (StX.tMakeR C sp E tNil) := by
  refine ⟨fun pins s σ H Q I h => ?_⟩
  refine wpAny_Call_Name_kw (ld_glob I hg hm (PySem.W.callWith_K0 I.kIn M.kp ?_) hdb)
  exact StX.run_makeR (us := []) M F hr hx I .nil h
theorem mkC (T : Txt P K mg) : Mk K T.C_Clause T.f_Clause_init := ⟨T.mi_Clause, T.m_Clause_init, T.i_Clause_init, T.kc_Clause⟩
structure MkL (C CB CS CT : Addr) (L : List Str) (H : Hp) (Q : VK) (E : XK) : Prop where
  bad : ∀ pre z post, L = pre ++ z :: post → (∀ y ∈ pre, isLit y = true) → isLit z = false → ∀ H' d, Ex H H' → H' d = some (.xd [("text", .str z)]) → E (.ref CB) (some d) H'
  sign : (∀ z ∈ L, isLit z = true) → ∀ N, Ord (L.map bare) N → ∀ n, N.find? (bothIn L) = some n → ∀ H' d, Ex H H' → H' d = some (.xd [("name", .str n)]) → E (.ref CS) (some d) H'
  many : (∀ z ∈ L, isLit z = true) → ∀ N, Ord (L.map bare) N → N.find? (bothIn L) = none → 6 < (due L N).length → ∀ H' d, Ex H H' → H' d = some (.xd [("limit", .int 6)]) → E (.ref CT) (some d) H'
  good : (∀ z ∈ L, isLit z = true) → ∀ N, Ord (L.map bare) N → N.find? (bothIn L) = none → (due L N).length ≤ 6 → ∀ H' x dx p, Ex H H' → H' x = some (.ins C dx [("literals", .ref p)]) → H' p = some (.tup ((due L N).map V.str)) → Q (.ref x) H'
theorem MkL.mono {C CB CS CT : Addr} {L : List Str} {H H1 : Hp} {Q : VK} {E : XK} (m : MkL C CB CS CT L H Q E) (e : Ex H H1) : MkL C CB CS CT L H1 Q E :=
  ⟨fun a b c d f g H' x y => m.bad a b c d f g H' x (e.trans y), fun a N b n c H' d x => m.sign a N b n c H' d (e.trans x), fun a N b c f H' d x => m.many a N b c f H' d (e.trans x), fun a N b c f H' x dx p y => m.good a N b c f H' x dx p (e.trans y)⟩
def spInitR (C CB CS CT : Addr) : Sp := fun vs H Q E => ∃ ws rest, vs = ws ++ rest ∧ ws.length = ["self"].length ∧ rest.length ≤ sizeLine ∧ ∀ p, H p = none → spCl C CB CS CT (ws ++ [V.ref p]) (upd H p (.tup rest)) Q E
theorem mk_args {C CB CS CT : Addr} {L : List Str} {σ : L2.St} {H : Hp} {Q : VK} {E : XK} {ta : TA} (few : L.length ≤ 90) (txt : ∀ z ∈ L, Txt8 99 z) (hA : EvA ta σ H (L.map V.str)) (go : MkL C CB CS CT L H Q E) : StX.tMakeR C (spInitR C CB CS CT) E ta σ H Q :=
  hA H (Ex.refl H) _ fun H1 e1 x dx hx hd ne => ⟨[.ref x], L.map V.str, rfl, rfl, by rw [List.length_map]; exact sz_of (by omega), fun p np => by
    have m := go.mono e1
    have px : p ≠ x := fun e => by rw [e, upd_same] at np; cases np
    have pd : p ≠ dx := fun e => by rw [e, upd_ne ne, upd_same] at np; cases np
    have np1 : H1 p = none := by rw [upd_ne px, upd_ne pd] at np; exact np
    have e0 : Ex H1 (upd (upd (upd H1 dx (.own x)) x (.ins C dx [])) p (.tup (L.map V.str))) := fun c o hc => by rw [upd_ne (ne_of_none hc np1), upd_ne (ne_of_none hc hx), upd_ne (ne_of_none hc hd)]; exact hc
    refine ⟨x, dx, p, L, rfl, by rw [upd_ne px.symm, upd_same], upd_same, few, txt, fun pre z post a b c H' d e => m.bad pre z post a b c H' d (e0.trans e), fun lits N od => ⟨fun n f H' d e => m.sign lits N od n f H' d (e0.trans e), fun f l H' d e => m.many lits N od f l H' d (e0.trans e), fun f l H' q k nq hx' hq => ⟨rfl, m.good lits N od f l H' x dx q (fun c o hc => k c o (ne_of_none hc hx) (e0 c o hc)) hx' hq⟩⟩⟩⟩
/-- _law_clause(row), up to 6 strings -/
def spClause (C CB CS CT : Addr) (n : Nat) : Sp := fun vs H Q E => ∃ (r : Addr) (L : List Str), vs = [.ref r] ∧ H r = some (.lst (L.map V.str)) ∧ L.length ≤ n ∧ (∀ z ∈ L, Txt8 99 z) ∧ MkL C CB CS CT L H Q E
theorem len_is {L : List Str} {k : Int} (e : decide (V.int ((L.map V.str).length : Int) = V.int k) = true) : (L.length : Int) = k := by
  have z := V.int.inj (of_decide_eq_true e)
  rw [List.length_map] at z
  exact z
theorem len_not {L : List Str} {k : Int} (e : ¬ decide (V.int ((L.map V.str).length : Int) = V.int k) = true) : (L.length : Int) ≠ k := fun z => e (decide_eq_true (by rw [List.length_map, z]))
theorem ok__law_clause (T : Txt P K mg) : FnOk P w K mg base (L2N.CX P w) 10 T.f__law_clause T.d__law_clause ["_law_row_here"] (spClause T.C_Clause T.C_BadLiteral T.C_BothSigns T.C_TooMany 6) := by
  refine T.F__law_clause.okN sc__law_clause (fun vs H Q E h => ?_) (fun cdv A outer s H vs Q E hr h => ?_)
  · obtain ⟨r, L, rfl, _⟩ := h
    rfl
  · obtain ⟨r, L, rfl, hr0, few, txt, go⟩ := h
    refine ⟨_, (pss_cons (ps_if (pt_cmpR op_eq (pe_callB call_len_seq (by rfl) T.n_len PySem.boot_len (pa_cons (pv 0) pa_nil)) pe_int (nomark _)) (pss_one (ps_ret (pe_makeR0 (mkC T) (okR_Clause_init T) (hr.mono (by decide)) rfl T.g_Clause (L2N.passes_call (L2N.takes_of rfl rfl rfl rfl) (fun _ _ _ _ h => h)) ))) pss_nil)
      (pss_cons (ps_if (pt_cmpR op_eq (pe_callB call_len_seq (by rfl) T.n_len PySem.boot_len (pa_cons (pv 0) pa_nil)) pe_int (nomark _)) (pss_one (ps_ret (StX.pe_makeR (mkC T) (okR_Clause_init T) (hr.mono (by decide)) rfl T.g_Clause (L2N.passes_call (L2N.takes_of rfl rfl rfl rfl) (fun _ _ _ _ h => h)) (pa_cons (pe_ix ix_list (pv 0) pe_int (fun _ _ => rfl)) pa_nil)))) pss_nil)
      (pss_cons (ps_if (pt_cmpR op_eq (pe_callB call_len_seq (by rfl) T.n_len PySem.boot_len (pa_cons (pv 0) pa_nil)) pe_int (nomark _)) (pss_one (ps_ret (StX.pe_makeR (mkC T) (okR_Clause_init T) (hr.mono (by decide)) rfl T.g_Clause (L2N.passes_call (L2N.takes_of rfl rfl rfl rfl) (fun _ _ _ _ h => h)) (pa_cons (pe_ix ix_list (pv 0) pe_int (fun _ _ => rfl)) (pa_cons (pe_ix ix_list (pv 0) pe_int (fun _ _ => rfl)) pa_nil))))) pss_nil)
      (pss_cons (ps_if (pt_cmpR op_eq (pe_callB call_len_seq (by rfl) T.n_len PySem.boot_len (pa_cons (pv 0) pa_nil)) pe_int (nomark _)) (pss_one (ps_ret (StX.pe_makeR (mkC T) (okR_Clause_init T) (hr.mono (by decide)) rfl T.g_Clause (L2N.passes_call (L2N.takes_of rfl rfl rfl rfl) (fun _ _ _ _ h => h)) (pa_cons (pe_ix ix_list (pv 0) pe_int (fun _ _ => rfl)) (pa_cons (pe_ix ix_list (pv 0) pe_int (fun _ _ => rfl)) (pa_cons (pe_ix ix_list (pv 0) pe_int (fun _ _ => rfl)) pa_nil)))))) pss_nil)
      (pss_cons (ps_if (pt_cmpR op_eq (pe_callB call_len_seq (by rfl) T.n_len PySem.boot_len (pa_cons (pv 0) pa_nil)) pe_int (nomark _)) (pss_one (ps_ret (StX.pe_makeR (mkC T) (okR_Clause_init T) (hr.mono (by decide)) rfl T.g_Clause (L2N.passes_call (L2N.takes_of rfl rfl rfl rfl) (fun _ _ _ _ h => h)) (pa_cons (pe_ix ix_list (pv 0) pe_int (fun _ _ => rfl)) (pa_cons (pe_ix ix_list (pv 0) pe_int (fun _ _ => rfl)) (pa_cons (pe_ix ix_list (pv 0) pe_int (fun _ _ => rfl)) (pa_cons (pe_ix ix_list (pv 0) pe_int (fun _ _ => rfl)) pa_nil))))))) pss_nil)
      (pss_cons (ps_if (pt_cmpR op_eq (pe_callB call_len_seq (by rfl) T.n_len PySem.boot_len (pa_cons (pv 0) pa_nil)) pe_int (nomark _)) (pss_one (ps_ret (StX.pe_makeR (mkC T) (okR_Clause_init T) (hr.mono (by decide)) rfl T.g_Clause (L2N.passes_call (L2N.takes_of rfl rfl rfl rfl) (fun _ _ _ _ h => h)) (pa_cons (pe_ix ix_list (pv 0) pe_int (fun _ _ => rfl)) (pa_cons (pe_ix ix_list (pv 0) pe_int (fun _ _ => rfl)) (pa_cons (pe_ix ix_list (pv 0) pe_int (fun _ _ => rfl)) (pa_cons (pe_ix ix_list (pv 0) pe_int (fun _ _ => rfl)) (pa_cons (pe_ix ix_list (pv 0) pe_int (fun _ _ => rfl)) pa_nil)))))))) pss_nil)
      (pss_one (ps_ret (StX.pe_makeR (mkC T) (okR_Clause_init T) (hr.mono (by decide)) rfl T.g_Clause (L2N.passes_call (L2N.takes_of rfl rfl rfl rfl) (fun _ _ _ _ h => h)) (pa_cons (pe_ix ix_list (pv 0) pe_int (fun _ _ => rfl)) (pa_cons (pe_ix ix_list (pv 0) pe_int (fun _ _ => rfl)) (pa_cons (pe_ix ix_list (pv 0) pe_int (fun _ _ => rfl)) (pa_cons (pe_ix ix_list (pv 0) pe_int (fun _ _ => rfl)) (pa_cons (pe_ix ix_list (pv 0) pe_int (fun _ _ => rfl)) (pa_cons (pe_ix ix_list (pv 0) pe_int (fun _ _ => rfl)) pa_nil))))))))))))))), ?_⟩
    refine ⟨.ref r, rfl, r, _, rfl, .inl (SqL.of hr0), rfl, _, rfl, ite2 (fun h0 => ?_) (fun h0 => ?_)⟩
    · have ln : L.length = 0 := by have z := len_is h0; omega
      obtain rfl : L = [] := List.eq_nil_of_length_eq_zero ln
      exact mk_args (L := []) (show 0 ≤ 90 by decide) txt ea_nil go
    have n0 := len_not h0
    refine ⟨.ref r, rfl, r, _, rfl, .inl (SqL.of hr0), rfl, _, rfl, ite2 (fun h0 => ?_) (fun h0 => ?_)⟩
    · have ln : L.length = 1 := by have z := len_is h0; omega
      obtain ⟨a, rfl⟩ : ∃ a, L = [a] := by
        match L, ln with
        | [a], _ => exact ⟨a, rfl⟩
      exact mk_args (L := [a]) (show 1 ≤ 90 by decide) txt (ea_cons (ev_op (ev_var rfl) ev_c (rv_ixL (sq_of hr0) (atI_nat (j := 0) rfl))) ea_nil) go
    have n1 := len_not h0
    refine ⟨.ref r, rfl, r, _, rfl, .inl (SqL.of hr0), rfl, _, rfl, ite2 (fun h0 => ?_) (fun h0 => ?_)⟩
    · have ln : L.length = 2 := by have z := len_is h0; omega
      obtain ⟨a, b, rfl⟩ : ∃ a b, L = [a, b] := by
        match L, ln with
        | [a, b], _ => exact ⟨a, b, rfl⟩
      exact mk_args (L := [a, b]) (show 2 ≤ 90 by decide) txt (ea_cons (ev_op (ev_var rfl) ev_c (rv_ixL (sq_of hr0) (atI_nat (j := 0) rfl))) (ea_cons (ev_op (ev_var rfl) ev_c (rv_ixL (sq_of hr0) (atI_nat (j := 1) rfl))) ea_nil)) go
    have n2 := len_not h0
    refine ⟨.ref r, rfl, r, _, rfl, .inl (SqL.of hr0), rfl, _, rfl, ite2 (fun h0 => ?_) (fun h0 => ?_)⟩
    · have ln : L.length = 3 := by have z := len_is h0; omega
      obtain ⟨a, b, c, rfl⟩ : ∃ a b c, L = [a, b, c] := by
        match L, ln with
        | [a, b, c], _ => exact ⟨a, b, c, rfl⟩
      exact mk_args (L := [a, b, c]) (show 3 ≤ 90 by decide) txt (ea_cons (ev_op (ev_var rfl) ev_c (rv_ixL (sq_of hr0) (atI_nat (j := 0) rfl))) (ea_cons (ev_op (ev_var rfl) ev_c (rv_ixL (sq_of hr0) (atI_nat (j := 1) rfl))) (ea_cons (ev_op (ev_var rfl) ev_c (rv_ixL (sq_of hr0) (atI_nat (j := 2) rfl))) ea_nil))) go
    have n3 := len_not h0
    refine ⟨.ref r, rfl, r, _, rfl, .inl (SqL.of hr0), rfl, _, rfl, ite2 (fun h0 => ?_) (fun h0 => ?_)⟩
    · have ln : L.length = 4 := by have z := len_is h0; omega
      obtain ⟨a, b, c, d, rfl⟩ : ∃ a b c d, L = [a, b, c, d] := by
        match L, ln with
        | [a, b, c, d], _ => exact ⟨a, b, c, d, rfl⟩
      exact mk_args (L := [a, b, c, d]) (show 4 ≤ 90 by decide) txt (ea_cons (ev_op (ev_var rfl) ev_c (rv_ixL (sq_of hr0) (atI_nat (j := 0) rfl))) (ea_cons (ev_op (ev_var rfl) ev_c (rv_ixL (sq_of hr0) (atI_nat (j := 1) rfl))) (ea_cons (ev_op (ev_var rfl) ev_c (rv_ixL (sq_of hr0) (atI_nat (j := 2) rfl))) (ea_cons (ev_op (ev_var rfl) ev_c (rv_ixL (sq_of hr0) (atI_nat (j := 3) rfl))) ea_nil)))) go
    have n4 := len_not h0
    refine ⟨.ref r, rfl, r, _, rfl, .inl (SqL.of hr0), rfl, _, rfl, ite2 (fun h0 => ?_) (fun h0 => ?_)⟩
    · have ln : L.length = 5 := by have z := len_is h0; omega
      obtain ⟨a, b, c, d, e, rfl⟩ : ∃ a b c d e, L = [a, b, c, d, e] := by
        match L, ln with
        | [a, b, c, d, e], _ => exact ⟨a, b, c, d, e, rfl⟩
      exact mk_args (L := [a, b, c, d, e]) (show 5 ≤ 90 by decide) txt (ea_cons (ev_op (ev_var rfl) ev_c (rv_ixL (sq_of hr0) (atI_nat (j := 0) rfl))) (ea_cons (ev_op (ev_var rfl) ev_c (rv_ixL (sq_of hr0) (atI_nat (j := 1) rfl))) (ea_cons (ev_op (ev_var rfl) ev_c (rv_ixL (sq_of hr0) (atI_nat (j := 2) rfl))) (ea_cons (ev_op (ev_var rfl) ev_c (rv_ixL (sq_of hr0) (atI_nat (j := 3) rfl))) (ea_cons (ev_op (ev_var rfl) ev_c (rv_ixL (sq_of hr0) (atI_nat (j := 4) rfl))) ea_nil))))) go
    have n5 := len_not h0
    have ln : L.length = 6 := by omega
    obtain ⟨a, b, c, d, e, f, rfl⟩ : ∃ a b c d e f, L = [a, b, c, d, e, f] := by
      match L, ln with
      | [a, b, c, d, e, f], _ => exact ⟨a, b, c, d, e, f, rfl⟩
    exact mk_args (L := [a, b, c, d, e, f]) (show 6 ≤ 90 by decide) txt (ea_cons (ev_op (ev_var rfl) ev_c (rv_ixL (sq_of hr0) (atI_nat (j := 0) rfl))) (ea_cons (ev_op (ev_var rfl) ev_c (rv_ixL (sq_of hr0) (atI_nat (j := 1) rfl))) (ea_cons (ev_op (ev_var rfl) ev_c (rv_ixL (sq_of hr0) (atI_nat (j := 2) rfl))) (ea_cons (ev_op (ev_var rfl) ev_c (rv_ixL (sq_of hr0) (atI_nat (j := 3) rfl))) (ea_cons (ev_op (ev_var rfl) ev_c (rv_ixL (sq_of hr0) (atI_nat (j := 4) rfl))) (ea_cons (ev_op (ev_var rfl) ev_c (rv_ixL (sq_of hr0) (atI_nat (j := 5) rfl))) ea_nil)))))) go
end
section
open Evl
theorem given_true (n : Nat) : given n (fun _ => true) (fun _ => V.bl true) = (List.replicate n true).map V.bl := by
  have e : List.filter (fun _ => true) (List.range n) = List.range n := List.filter_eq_self.mpr fun _ _ => rfl
  unfold given
  rw [e]
  simp [List.map_const']
theorem given_eq {te : TE} {σ : L2.St} {H : Hp} {n : Nat} (h : EvL te σ H (given n (fun _ => true) (fun _ => V.bl true))) : EvL te σ H ((List.replicate n true).map V.bl) := by
  rw [given_true] at h
  exact h
end
section
open Evl
theorem FnOk_or {CX : CXT} {k : Nat} {f : Addr} {fd : FuncData} {ps : List Str} {sp1 sp2 : Sp} (F1 : FnOk P w K mg base CX k f fd ps sp1) (F2 : FnOk P w K mg base CX k f fd ps sp2) : FnOk P w K mg base CX k f fd ps (fun vs H Q E => sp1 vs H Q E ∨ sp2 vs H Q E) :=
  ⟨fun vs H Q E h => h.elim (F1.len vs H Q E) (F2.len vs H Q E), fun A outer s H args us vs Q E hr e0 b v h => h.elim (F1.run A outer s H args us vs Q E hr e0 b v) (F2.run A outer s H args us vs Q E hr e0 b v)⟩
/-- _law_same(one, other) of two tuples, each item the same as the other's by spR -/
def spSameG (spR : Sp) : Sp := fun vs H Q _ => ∃ (a b : Addr) (xs ys : List V), vs = [.ref a, .ref b] ∧ H a = some (.tup xs) ∧ H b = some (.tup ys) ∧ xs.length = ys.length ∧ xs.length ≤ 100 ∧ (∀ (i : Nat) (x y : V), xs[i]? = some x → ys[i]? = some y → SpV spR [x, y] H (.bl true)) ∧ ∀ H', Ex H H' → Q (.bl true) H'
theorem ev_isU {σ : L2.St} {H : Hp} {ta : TE} {a : Addr} {xs : List V} {c : String} {b : Bool} (h : Ev ta σ H (.ref a)) (ha : H a = some (.tup xs)) (hk : kitB "tuple" c = some b) : Ev (tCB (rIsi K) (tCons ta (tCons (tC (.ty c)) tNil))) σ H (.bl b) :=
  ev_cb (ea_cons h (ea_cons ev_c ea_nil)) fun H1 e Q q => ⟨.ref a, .ty c, .type "tuple", .type c, b, rfl, .ty c, .base (.tup (e _ _ ha)), kit_ty hk, q H1 (Ex.refl H1)⟩
theorem okG__law_same (T : Txt P K mg) {kR : Nat} {spR : Sp} (FR : FnOk P w K mg base CX0 kR T.f__law_same T.d__law_same ["_law_one", "_law_other"] spR) : FnOk P w K mg base CX0 (kR + 1) T.f__law_same T.d__law_same ["_law_one", "_law_other"] (spSameG spR) := by
  refine T.F__law_same.ok sc__law_same (fun vs H Q E h => ?_) (fun cdv A outer s H vs Q E hr h => ?_)
  · obtain ⟨a, b, xs, ys, rfl, _⟩ := h
    rfl
  · obtain ⟨a, b, xs, ys, rfl, ha, hb, ln, hl, each, k⟩ := h
    refine ⟨_, (pss_cons (ps_if (PW.pt (pw_or (pt_val (pe_callB call_isi (by rfl) T.n_isinstance (by decide +kernel) (pa_cons (pv 0) (pa_cons (pe_bltn (v := .ty "bool") (u := .type "bool") (by rfl) T.n_bool (by decide +kernel) rfl) pa_nil)))) (pw_or1 (pt_val (pe_callB call_isi (by rfl) T.n_isinstance (by decide +kernel) (pa_cons (pv 1) (pa_cons (pe_bltn (v := .ty "bool") (u := .type "bool") (by rfl) T.n_bool (by decide +kernel) rfl) pa_nil))))))) (pss_one (ps_ret (pe_and (pe_callB call_isi (by rfl) T.n_isinstance (by decide +kernel) (pa_cons (pv 0) (pa_cons (pe_bltn (v := .ty "bool") (u := .type "bool") (by rfl) T.n_bool (by decide +kernel) rfl) pa_nil))) (pe_and (pe_callB call_isi (by rfl) T.n_isinstance (by decide +kernel) (pa_cons (pv 1) (pa_cons (pe_bltn (v := .ty "bool") (u := .type "bool") (by rfl) T.n_bool (by decide +kernel) rfl) pa_nil))) (pe_one (pe_cmpR op_eq (pv 0) (pv 1) (nomark _))))))) pss_nil)
      (pss_cons (ps_if (PW.pt (pw_or (pt_val (pe_callB call_isi (by rfl) T.n_isinstance (by decide +kernel) (pa_cons (pv 0) (pa_cons (pe_bltn (v := .ty "int") (u := .type "int") (by rfl) T.n_int (by decide +kernel) rfl) pa_nil)))) (pw_or1 (pt_val (pe_callB call_isi (by rfl) T.n_isinstance (by decide +kernel) (pa_cons (pv 1) (pa_cons (pe_bltn (v := .ty "int") (u := .type "int") (by rfl) T.n_int (by decide +kernel) rfl) pa_nil))))))) (pss_one (ps_ret (pe_and (pe_callB call_isi (by rfl) T.n_isinstance (by decide +kernel) (pa_cons (pv 0) (pa_cons (pe_bltn (v := .ty "int") (u := .type "int") (by rfl) T.n_int (by decide +kernel) rfl) pa_nil))) (pe_and (pe_callB call_isi (by rfl) T.n_isinstance (by decide +kernel) (pa_cons (pv 1) (pa_cons (pe_bltn (v := .ty "int") (u := .type "int") (by rfl) T.n_int (by decide +kernel) rfl) pa_nil))) (pe_one (pe_cmpR op_eq (pv 0) (pv 1) (nomark _))))))) pss_nil)
      (pss_cons (ps_if (PW.pt (pw_or (pt_val (pe_callB call_isi (by rfl) T.n_isinstance (by decide +kernel) (pa_cons (pv 0) (pa_cons (pe_bltn (v := .ty "str") (u := .type "str") (by rfl) T.n_str (by decide +kernel) rfl) pa_nil)))) (pw_or1 (pt_val (pe_callB call_isi (by rfl) T.n_isinstance (by decide +kernel) (pa_cons (pv 1) (pa_cons (pe_bltn (v := .ty "str") (u := .type "str") (by rfl) T.n_str (by decide +kernel) rfl) pa_nil))))))) (pss_one (ps_ret (pe_and (pe_callB call_isi (by rfl) T.n_isinstance (by decide +kernel) (pa_cons (pv 0) (pa_cons (pe_bltn (v := .ty "str") (u := .type "str") (by rfl) T.n_str (by decide +kernel) rfl) pa_nil))) (pe_and (pe_callB call_isi (by rfl) T.n_isinstance (by decide +kernel) (pa_cons (pv 1) (pa_cons (pe_bltn (v := .ty "str") (u := .type "str") (by rfl) T.n_str (by decide +kernel) rfl) pa_nil))) (pe_one (pe_cmpR op_eq (pv 0) (pv 1) (nomark _))))))) pss_nil)
      (pss_cons (ps_set (i := 2) sc__law_same.nd rfl (.inl rfl) (pe_and (pe_callB call_isi (by rfl) T.n_isinstance (by decide +kernel) (pa_cons (pv 0) (pa_cons (pe_bltn (v := .ty "list") (u := .type "list") (by rfl) T.n_list (by decide +kernel) rfl) pa_nil))) (pe_one (pe_callB call_isi (by rfl) T.n_isinstance (by decide +kernel) (pa_cons (pv 1) (pa_cons (pe_bltn (v := .ty "list") (u := .type "list") (by rfl) T.n_list (by decide +kernel) rfl) pa_nil))))))
      (pss_cons (ps_if (PW.pt (pw_and (pt_not (pt_val (pv 2))) (pw_and1 (pt_not (PW.pt (pw_and (pt_val (pe_callB call_isi (by rfl) T.n_isinstance (by decide +kernel) (pa_cons (pv 0) (pa_cons (pe_bltn (v := .ty "tuple") (u := .type "tuple") (by rfl) T.n_tuple (by decide +kernel) rfl) pa_nil)))) (pw_and1 (pt_val (pe_callB call_isi (by rfl) T.n_isinstance (by decide +kernel) (pa_cons (pv 1) (pa_cons (pe_bltn (v := .ty "tuple") (u := .type "tuple") (by rfl) T.n_tuple (by decide +kernel) rfl) pa_nil))))))))))) (pss_one (ps_ret (pe_and (pe_cmpR op_isN (pv 0) pe_non (nomark _)) (pe_one (pe_cmpR op_isN (pv 1) pe_non (nomark _)))))) pss_nil)
      (pss_one (ps_ret (pe_and (pe_cmpR op_eq (pe_callB call_len_seq (by rfl) T.n_len PySem.boot_len (pa_cons (pv 0) pa_nil)) (pe_callB call_len_seq (by rfl) T.n_len PySem.boot_len (pa_cons (pv 1) pa_nil)) (nomark _)) (pe_one (pe_callB (cr_all rfl) (by rfl) T.n_all (by decide +kernel) (pa_cons (pe_lc (own := [("_law_k", 3)]) (g := gName 3) (by rfl) sc__law_same.nd (pi_range1 rfl T.n_range (pa_cons (pe_callB call_len_seq (by rfl) T.n_len PySem.boot_len (pa_cons (pv 0) pa_nil)) pa_nil)) (blkOk_by (own := [("_law_k", 3)]) (N := N__law_same) (sc := defScope s__law_same) (by decide +kernel)) (fun _ _ _ _ _ => pg_name (i := 3) sc__law_same.nd rfl (Or.inl rfl)) (fun _ _ _ _ _ => pts_nil) (fun _ _ _ _ _ => (pe_call FR hr rfl T.g__law_same T.F__law_same.kp T.b__law_same .nil pass0 (pa_cons (pe_ix (r := rIxT K) ix_tup (pv 0) (pv 3) (fun _ _ => rfl)) (pa_cons (pe_ix (r := rIxT K) ix_tup (pv 1) (pv 3) (fun _ _ => rfl)) pa_nil))))) pa_nil))))))))))), ?_⟩
    have kb : kitB "tuple" "bool" = some false := by decide +kernel
    have ki : kitB "tuple" "int" = some false := by decide +kernel
    have ks : kitB "tuple" "str" = some false := by decide +kernel
    have kl : kitB "tuple" "list" = some false := by decide +kernel
    have kt : kitB "tuple" "tuple" = some true := by decide +kernel
    refine q_when (b := false) (et_is (et_or (et_B (ev_isU (ev_var rfl) ha kb)) (fun _ => et_B (ev_isU (ev_var rfl) hb kb))) rfl) (fun z => by cases z) (fun _ H1 e1 => ?_)
    have ha := e1 _ _ ha
    have hb := e1 _ _ hb
    refine q_when (b := false) (et_is (et_or (et_B (ev_isU (ev_var rfl) ha ki)) (fun _ => et_B (ev_isU (ev_var rfl) hb ki))) rfl) (fun z => by cases z) (fun _ H2 e2 => ?_)
    have ha := e2 _ _ ha
    have hb := e2 _ _ hb
    refine q_when (b := false) (et_is (et_or (et_B (ev_isU (ev_var rfl) ha ks)) (fun _ => et_B (ev_isU (ev_var rfl) hb ks))) rfl) (fun z => by cases z) (fun _ H3 e3 => ?_)
    have ha := e3 _ _ ha
    have hb := e3 _ _ hb
    refine q_asg (v := .bl false) (ev_is (ev_andV (b := false) (ev_isU (ev_var rfl) ha kl) (fun z => by cases z)) rfl) (fun H4 e4 => ?_)
    have ha := e4 _ _ ha
    have hb := e4 _ _ hb
    refine q_when (b := false) (et_is (et_and (a := true) (b := false) (et_is (et_not (et_B (ev_var rfl))) rfl) (fun _ => et_is (et_not (et_and (et_B (ev_isU (ev_var rfl) ha kt)) (fun _ => et_B (ev_isU (ev_var rfl) hb kt)))) rfl)) rfl) (fun z => by cases z) (fun _ H5 e5 => ?_)
    have ha := e5 _ _ ha
    have hb := e5 _ _ hb
    have e05 := (((e1.trans e2).trans e3).trans e4).trans e5
    refine s_ret (v := .bl true) (ev_is (ev_andV (a := true) (b := true) (ev_is (ev_op (x := .int (xs.length : Int)) (y := .int (xs.length : Int)) (ev_cb (ea_cons (ev_var rfl) ea_nil) fun H7 e7 Q q => ?_) (ev_cb (ea_cons (ev_var rfl) ea_nil) fun H7 e7 Q q => ?_) (rv_eq rfl)) (by simp)) (fun _ => ?_)) rfl) (fun H6 e6 => k H6 (e05.trans e6))
    · exact ⟨a, _, rfl, .inr (Evl.st_of (e7 _ _ ha)), q H7 (Ex.refl H7)⟩
    · exact ⟨b, _, rfl, .inr (Evl.st_of (e7 _ _ hb)), (by rw [← ln]; exact q H7 (Ex.refl H7))⟩
    · refine ev_is (ev_all (bs := List.replicate xs.length true) (given_eq (el_lcR1 (n := (xs.length : Int)) (fun _ => true) (fun _ => V.bl true) (ea_cons (ev_cb (ea_cons (ev_var rfl) ea_nil) fun H7 e7 Q q => ⟨a, _, rfl, .inr (Evl.st_of (e7 _ _ ha)), q H7 (Ex.refl H7)⟩) ea_nil) ⟨by omega, by omega⟩ (fun _ => rfl) (fun i H4 _ _ H5 _ Q q => q H5 (Ex.refl H5)) (fun i H6 e hi _ => ?_)))) (by simp)
      have hi2 : i < xs.length := by omega
      have hx : xs[i]? = some xs[i] := List.getElem?_eq_getElem hi2
      have hy : ys[i]? = some (ys[i]'(by omega)) := List.getElem?_eq_getElem (by omega)
      exact ev_call (ea_cons (ev_op (ev_var rfl) (ev_var rfl) (rv_ixT (Evl.st_of (e _ _ ha)) (atI_nat (j := i) hx))) (ea_cons (ev_op (ev_var rfl) (ev_var rfl) (rv_ixT (Evl.st_of (e _ _ hb)) (atI_nat (j := i) hy))) ea_nil)) fun H7 e7 => each i _ _ hx hy H7 ((e05.trans e).trans e7)
/-- _law_same(one, other) of two lists, each item the same as the other's by spR -/
def spSameLG (spR : Sp) : Sp := fun vs H Q _ => ∃ (a b : Addr) (xs ys : List V), vs = [.ref a, .ref b] ∧ H a = some (.lst xs) ∧ H b = some (.lst ys) ∧ xs.length = ys.length ∧ xs.length ≤ 100 ∧ (∀ (i : Nat) (x y : V), xs[i]? = some x → ys[i]? = some y → SpV spR [x, y] H (.bl true)) ∧ ∀ H', Ex H H' → Q (.bl true) H'
theorem ev_isL {σ : L2.St} {H : Hp} {ta : TE} {a : Addr} {xs : List V} {c : String} {b : Bool} (h : Ev ta σ H (.ref a)) (ha : H a = some (.lst xs)) (hk : kitB "list" c = some b) : Ev (tCB (rIsi K) (tCons ta (tCons (tC (.ty c)) tNil))) σ H (.bl b) :=
  ev_cb (ea_cons h (ea_cons ev_c ea_nil)) fun H1 e Q q => ⟨.ref a, .ty c, .type "list", .type c, b, rfl, .ty c, .base (.lst (e _ _ ha)), kit_ty hk, q H1 (Ex.refl H1)⟩
theorem okLG__law_same (T : Txt P K mg) {kR : Nat} {spR : Sp} (FR : FnOk P w K mg base CX0 kR T.f__law_same T.d__law_same ["_law_one", "_law_other"] spR) : FnOk P w K mg base CX0 (kR + 1) T.f__law_same T.d__law_same ["_law_one", "_law_other"] (spSameLG spR) := by
  refine T.F__law_same.ok sc__law_same (fun vs H Q E h => ?_) (fun cdv A outer s H vs Q E hr h => ?_)
  · obtain ⟨a, b, xs, ys, rfl, _⟩ := h
    rfl
  · obtain ⟨a, b, xs, ys, rfl, ha, hb, ln, hl, each, k⟩ := h
    refine ⟨_, (pss_cons (ps_if (PW.pt (pw_or (pt_val (pe_callB call_isi (by rfl) T.n_isinstance (by decide +kernel) (pa_cons (pv 0) (pa_cons (pe_bltn (v := .ty "bool") (u := .type "bool") (by rfl) T.n_bool (by decide +kernel) rfl) pa_nil)))) (pw_or1 (pt_val (pe_callB call_isi (by rfl) T.n_isinstance (by decide +kernel) (pa_cons (pv 1) (pa_cons (pe_bltn (v := .ty "bool") (u := .type "bool") (by rfl) T.n_bool (by decide +kernel) rfl) pa_nil))))))) (pss_one (ps_ret (pe_and (pe_callB call_isi (by rfl) T.n_isinstance (by decide +kernel) (pa_cons (pv 0) (pa_cons (pe_bltn (v := .ty "bool") (u := .type "bool") (by rfl) T.n_bool (by decide +kernel) rfl) pa_nil))) (pe_and (pe_callB call_isi (by rfl) T.n_isinstance (by decide +kernel) (pa_cons (pv 1) (pa_cons (pe_bltn (v := .ty "bool") (u := .type "bool") (by rfl) T.n_bool (by decide +kernel) rfl) pa_nil))) (pe_one (pe_cmpR op_eq (pv 0) (pv 1) (nomark _))))))) pss_nil)
      (pss_cons (ps_if (PW.pt (pw_or (pt_val (pe_callB call_isi (by rfl) T.n_isinstance (by decide +kernel) (pa_cons (pv 0) (pa_cons (pe_bltn (v := .ty "int") (u := .type "int") (by rfl) T.n_int (by decide +kernel) rfl) pa_nil)))) (pw_or1 (pt_val (pe_callB call_isi (by rfl) T.n_isinstance (by decide +kernel) (pa_cons (pv 1) (pa_cons (pe_bltn (v := .ty "int") (u := .type "int") (by rfl) T.n_int (by decide +kernel) rfl) pa_nil))))))) (pss_one (ps_ret (pe_and (pe_callB call_isi (by rfl) T.n_isinstance (by decide +kernel) (pa_cons (pv 0) (pa_cons (pe_bltn (v := .ty "int") (u := .type "int") (by rfl) T.n_int (by decide +kernel) rfl) pa_nil))) (pe_and (pe_callB call_isi (by rfl) T.n_isinstance (by decide +kernel) (pa_cons (pv 1) (pa_cons (pe_bltn (v := .ty "int") (u := .type "int") (by rfl) T.n_int (by decide +kernel) rfl) pa_nil))) (pe_one (pe_cmpR op_eq (pv 0) (pv 1) (nomark _))))))) pss_nil)
      (pss_cons (ps_if (PW.pt (pw_or (pt_val (pe_callB call_isi (by rfl) T.n_isinstance (by decide +kernel) (pa_cons (pv 0) (pa_cons (pe_bltn (v := .ty "str") (u := .type "str") (by rfl) T.n_str (by decide +kernel) rfl) pa_nil)))) (pw_or1 (pt_val (pe_callB call_isi (by rfl) T.n_isinstance (by decide +kernel) (pa_cons (pv 1) (pa_cons (pe_bltn (v := .ty "str") (u := .type "str") (by rfl) T.n_str (by decide +kernel) rfl) pa_nil))))))) (pss_one (ps_ret (pe_and (pe_callB call_isi (by rfl) T.n_isinstance (by decide +kernel) (pa_cons (pv 0) (pa_cons (pe_bltn (v := .ty "str") (u := .type "str") (by rfl) T.n_str (by decide +kernel) rfl) pa_nil))) (pe_and (pe_callB call_isi (by rfl) T.n_isinstance (by decide +kernel) (pa_cons (pv 1) (pa_cons (pe_bltn (v := .ty "str") (u := .type "str") (by rfl) T.n_str (by decide +kernel) rfl) pa_nil))) (pe_one (pe_cmpR op_eq (pv 0) (pv 1) (nomark _))))))) pss_nil)
      (pss_cons (ps_set (i := 2) sc__law_same.nd rfl (.inl rfl) (pe_and (pe_callB call_isi (by rfl) T.n_isinstance (by decide +kernel) (pa_cons (pv 0) (pa_cons (pe_bltn (v := .ty "list") (u := .type "list") (by rfl) T.n_list (by decide +kernel) rfl) pa_nil))) (pe_one (pe_callB call_isi (by rfl) T.n_isinstance (by decide +kernel) (pa_cons (pv 1) (pa_cons (pe_bltn (v := .ty "list") (u := .type "list") (by rfl) T.n_list (by decide +kernel) rfl) pa_nil))))))
      (pss_cons (ps_if (PW.pt (pw_and (pt_not (pt_val (pv 2))) (pw_and1 (pt_not (PW.pt (pw_and (pt_val (pe_callB call_isi (by rfl) T.n_isinstance (by decide +kernel) (pa_cons (pv 0) (pa_cons (pe_bltn (v := .ty "tuple") (u := .type "tuple") (by rfl) T.n_tuple (by decide +kernel) rfl) pa_nil)))) (pw_and1 (pt_val (pe_callB call_isi (by rfl) T.n_isinstance (by decide +kernel) (pa_cons (pv 1) (pa_cons (pe_bltn (v := .ty "tuple") (u := .type "tuple") (by rfl) T.n_tuple (by decide +kernel) rfl) pa_nil))))))))))) (pss_one (ps_ret (pe_and (pe_cmpR op_isN (pv 0) pe_non (nomark _)) (pe_one (pe_cmpR op_isN (pv 1) pe_non (nomark _)))))) pss_nil)
      (pss_one (ps_ret (pe_and (pe_cmpR op_eq (pe_callB call_len_seq (by rfl) T.n_len PySem.boot_len (pa_cons (pv 0) pa_nil)) (pe_callB call_len_seq (by rfl) T.n_len PySem.boot_len (pa_cons (pv 1) pa_nil)) (nomark _)) (pe_one (pe_callB (cr_all rfl) (by rfl) T.n_all (by decide +kernel) (pa_cons (pe_lc (own := [("_law_k", 3)]) (g := gName 3) (by rfl) sc__law_same.nd (pi_range1 rfl T.n_range (pa_cons (pe_callB call_len_seq (by rfl) T.n_len PySem.boot_len (pa_cons (pv 0) pa_nil)) pa_nil)) (blkOk_by (own := [("_law_k", 3)]) (N := N__law_same) (sc := defScope s__law_same) (by decide +kernel)) (fun _ _ _ _ _ => pg_name (i := 3) sc__law_same.nd rfl (Or.inl rfl)) (fun _ _ _ _ _ => pts_nil) (fun _ _ _ _ _ => (pe_call FR hr rfl T.g__law_same T.F__law_same.kp T.b__law_same .nil pass0 (pa_cons (pe_ix (r := rIxL K) ix_list (pv 0) (pv 3) (fun _ _ => rfl)) (pa_cons (pe_ix (r := rIxL K) ix_list (pv 1) (pv 3) (fun _ _ => rfl)) pa_nil))))) pa_nil))))))))))), ?_⟩
    have kb : kitB "list" "bool" = some false := by decide +kernel
    have ki : kitB "list" "int" = some false := by decide +kernel
    have ks : kitB "list" "str" = some false := by decide +kernel
    have kl : kitB "list" "list" = some true := by decide +kernel
    refine q_when (b := false) (et_is (et_or (et_B (ev_isL (ev_var rfl) ha kb)) (fun _ => et_B (ev_isL (ev_var rfl) hb kb))) rfl) (fun z => by cases z) (fun _ H1 e1 => ?_)
    have ha := e1 _ _ ha
    have hb := e1 _ _ hb
    refine q_when (b := false) (et_is (et_or (et_B (ev_isL (ev_var rfl) ha ki)) (fun _ => et_B (ev_isL (ev_var rfl) hb ki))) rfl) (fun z => by cases z) (fun _ H2 e2 => ?_)
    have ha := e2 _ _ ha
    have hb := e2 _ _ hb
    refine q_when (b := false) (et_is (et_or (et_B (ev_isL (ev_var rfl) ha ks)) (fun _ => et_B (ev_isL (ev_var rfl) hb ks))) rfl) (fun z => by cases z) (fun _ H3 e3 => ?_)
    have ha := e3 _ _ ha
    have hb := e3 _ _ hb
    refine q_asg (v := .bl true) (ev_is (ev_andV (ev_isL (ev_var rfl) ha kl) (fun _ => ev_isL (ev_var rfl) hb kl)) rfl) (fun H4 e4 => ?_)
    have ha := e4 _ _ ha
    have hb := e4 _ _ hb
    refine q_when (b := false) (et_is (et_and (a := false) (b := false) (et_is (et_not (et_B (ev_var rfl))) rfl) (fun z => by cases z)) rfl) (fun z => by cases z) (fun _ H5 e5 => ?_)
    have ha := e5 _ _ ha
    have hb := e5 _ _ hb
    have e05 := (((e1.trans e2).trans e3).trans e4).trans e5
    refine s_ret (v := .bl true) (ev_is (ev_andV (a := true) (b := true) (ev_is (ev_op (x := .int (xs.length : Int)) (y := .int (xs.length : Int)) (ev_cb (ea_cons (ev_var rfl) ea_nil) fun H7 e7 Q q => ?_) (ev_cb (ea_cons (ev_var rfl) ea_nil) fun H7 e7 Q q => ?_) (rv_eq rfl)) (by simp)) (fun _ => ?_)) rfl) (fun H6 e6 => k H6 (e05.trans e6))
    · exact ⟨a, _, rfl, .inl (SqL.of (e7 _ _ ha)), q H7 (Ex.refl H7)⟩
    · exact ⟨b, _, rfl, .inl (SqL.of (e7 _ _ hb)), (by rw [← ln]; exact q H7 (Ex.refl H7))⟩
    · refine ev_is (ev_all (bs := List.replicate xs.length true) (given_eq (el_lcR1 (n := (xs.length : Int)) (fun _ => true) (fun _ => V.bl true) (ea_cons (ev_cb (ea_cons (ev_var rfl) ea_nil) fun H7 e7 Q q => ⟨a, _, rfl, .inl (SqL.of (e7 _ _ ha)), q H7 (Ex.refl H7)⟩) ea_nil) ⟨by omega, by omega⟩ (fun _ => rfl) (fun i H4 _ _ H5 _ Q q => q H5 (Ex.refl H5)) (fun i H6 e hi _ => ?_)))) (by simp)
      have hi2 : i < xs.length := by omega
      have hx : xs[i]? = some xs[i] := List.getElem?_eq_getElem hi2
      have hy : ys[i]? = some (ys[i]'(by omega)) := List.getElem?_eq_getElem (by omega)
      exact ev_call (ea_cons (ev_op (ev_var rfl) (ev_var rfl) (rv_ixL (SqL.of (e _ _ ha)) (atI_nat (j := i) hx))) (ea_cons (ev_op (ev_var rfl) (ev_var rfl) (rv_ixL (SqL.of (e _ _ hb)) (atI_nat (j := i) hy))) ea_nil)) fun H7 e7 => each i _ _ hx hy H7 ((e05.trans e).trans e7)
/-- the same data: flat things, lists and tuples of the same data, at most n deep -/
inductive SameV (H : Hp) : Nat → V → V → Prop
  | flat {n : Nat} {x : V} : flat4 x = true → SameV H n x x
  | lst {n : Nat} {a b : Addr} {xs ys : List V} : H a = some (.lst xs) → H b = some (.lst ys) → xs.length = ys.length → xs.length ≤ 100 → (∀ (i : Nat) (x y : V), xs[i]? = some x → ys[i]? = some y → SameV H n x y) → SameV H (n + 1) (.ref a) (.ref b)
  | tup {n : Nat} {a b : Addr} {xs ys : List V} : H a = some (.tup xs) → H b = some (.tup ys) → xs.length = ys.length → xs.length ≤ 100 → (∀ (i : Nat) (x y : V), xs[i]? = some x → ys[i]? = some y → SameV H n x y) → SameV H (n + 1) (.ref a) (.ref b)
theorem SameV.mono {H H' : Hp} {n : Nat} {x y : V} (s : SameV H n x y) (e : Ex H H') : SameV H' n x y := by
  induction s with
  | flat h => exact .flat h
  | lst a b c d _ ih => exact .lst (e _ _ a) (e _ _ b) c d ih
  | tup a b c d _ ih => exact .tup (e _ _ a) (e _ _ b) c d ih
theorem SameV.txtT {H : Hp} {n : Nat} {a b : Addr} {L : List Str} (ha : H a = some (.tup (L.map V.str))) (hb : H b = some (.tup (L.map V.str))) (few : L.length ≤ 100) : SameV H (n + 1) (.ref a) (.ref b) :=
  .tup ha hb rfl (by rw [List.length_map]; exact few) fun i x y hx hy => by
    rw [hx] at hy
    cases hy
    rw [List.getElem?_map] at hx
    cases c : L[i]? with
    | none => rw [c] at hx; cases hx
    | some z => rw [c] at hx; obtain rfl : V.str z = x := Option.some.inj hx; exact .flat rfl
/-- _law_same(one, other) of the same data -/
def spSameN (n : Nat) : Sp := fun vs H Q _ => ∃ x y : V, vs = [x, y] ∧ SameV H n x y ∧ ∀ H', Ex H H' → Q (.bl true) H'
theorem FnOk.imp {CX : CXT} {k : Nat} {f : Addr} {fd : FuncData} {ps : List Str} {sp1 sp2 : Sp} (F : FnOk P w K mg base CX k f fd ps sp1) (h : ∀ vs H Q E, sp2 vs H Q E → sp1 vs H Q E) : FnOk P w K mg base CX k f fd ps sp2 :=
  ⟨fun vs H Q E z => F.len vs H Q E (h _ _ _ _ z), fun A outer s H args us vs Q E hr e0 b v z => F.run A outer s H args us vs Q E hr e0 b v (h _ _ _ _ z)⟩
theorem okN__law_same (T : Txt P K mg) : ∀ n : Nat, FnOk P w K mg base CX0 (n + 1) T.f__law_same T.d__law_same ["_law_one", "_law_other"] (spSameN n)
  | 0 => FnOk.imp (ok__law_same T) fun vs H Q E h => by
    obtain ⟨x, y, rfl, s, q⟩ := h
    cases s with
    | flat f => exact ⟨x, x, rfl, f, f, fun H2 e2 => by rw [decide_eq_true rfl]; exact q H2 e2⟩
  | n + 1 => FnOk.imp (FnOk_or ((ok__law_same T).mono (by omega)) (FnOk_or (okLG__law_same T (okN__law_same T n)) (okG__law_same T (okN__law_same T n)))) fun vs H Q E h => by
    obtain ⟨x, y, rfl, s, q⟩ := h
    cases s with
    | flat f => exact .inl ⟨x, x, rfl, f, f, fun H2 e2 => by rw [decide_eq_true rfl]; exact q H2 e2⟩
    | lst a b c d each => exact .inr (.inl ⟨_, _, _, _, rfl, a, b, c, d, fun i x y hx hy H2 e2 Q' q' E' => ⟨x, y, rfl, (each i x y hx hy).mono e2, q'⟩, q⟩)
    | tup a b c d each => exact .inr (.inr ⟨_, _, _, _, rfl, a, b, c, d, fun i x y hx hy H2 e2 Q' q' E' => ⟨x, y, rfl, (each i x y hx hy).mono e2, q'⟩, q⟩)
end
section
open Evl
/-! ### comprehensions over texts -/
/-- [g(z) for z in a list of texts if p(z)] -/
theorem el_fmV {σ : L2.St} {H : Hp} {a : Addr} {L : List Str} {tl te : TE} {tt : TT} {j : Nat} {vs : List Nat} (p : Str → Bool) (g : Str → V) (h : Ev tl σ H (.ref a)) (hx : H a = some (.lst (L.map V.str))) (hz : L.length ≤ 40000) (hw : ∀ x, wipe ((wipe σ vs).set j (some x)) vs = wipe σ vs)
    (ht : ∀ z ∈ L, ∀ H1, Ex H H1 → EvT tt ((wipe σ vs).set j (some (.str z))) H1 (p z)) (he : ∀ z ∈ L, p z = true → ∀ H1, Ex H H1 → Ev te ((wipe σ vs).set j (some (.str z))) H1 (g z)) :
    EvL (tLc (iList K tl) (gName j) tt te vs) σ H ((L.filter p).map g) := fun H0 e Q q => h H0 e _ fun H1 e1 => by
  have e01 := e.trans e1
  refine ⟨a, rfl, ⟨_, sq_of (e01 _ _ hx)⟩, fun D nD => lc_list (K := K) (xs := L.map V.str) (fun i H' => Ex H1 H' ∧ H' D = some (.lst (((L.take i).filter p).map g))) ⟨Ex.new nD, upd_same⟩ (fun i H' _ x => sq_of (x.1 _ _ (e01 _ _ hx))) ?_ ?_⟩
  · rintro i x H3 hi ⟨q1, q2⟩
    obtain ⟨z, hz', rfl⟩ := pick_str hi
    have m := List.mem_of_getElem? hz'
    refine ⟨hw _, ?_⟩
    refine ht z m H3 (e01.trans q1) H3 (Ex.refl _) _ fun H4 e4 => ?_
    cases c : p z with
    | true =>
      rw [if_pos rfl]
      refine he z m c H4 ((e01.trans q1).trans e4) H4 (Ex.refl _) _ fun H5 e5 => ⟨_, e5 _ _ (e4 _ _ q2), ?_, Ex.mut ((q1.trans e4).trans e5) nD, ?_⟩
      · rw [List.length_map]
        have l1 := List.length_filter_le p (L.take i)
        have l2 := List.length_take_le' i L
        exact sz_lt (by omega)
      · rw [upd_same, List.take_add_one, hz']
        simp [c]
    | false =>
      rw [if_neg (by decide)]
      refine ⟨q1.trans e4, ?_⟩
      rw [e4 _ _ q2, List.take_add_one, hz']
      simp [c]
  · rintro H3 ⟨q1, q2⟩
    rw [List.length_map, List.take_length] at q2
    exact q D H3 (fresh_back e1 nD) (e1.trans q1) q2
theorem filter_yes (L : List Str) : L.filter (fun _ => true) = L := List.filter_eq_self.mpr fun _ _ => rfl
/-- all([p(z) for z in ..]) -/
theorem all_map (L : List Str) (p : Str → Bool) : ((L.filter (fun _ => true)).map fun z => V.bl (p z)) = (L.map p).map V.bl := by
  rw [filter_yes, List.map_map]
  rfl
theorem ev_allV {σ : L2.St} {H : Hp} {tl : TE} {bs : List Bool} {b : Bool} (h : EvL tl σ H (bs.map V.bl)) (e : bs.all id = b) : Ev (tCB (rAll K) (tCons tl tNil)) σ H (.bl b) := by
  rw [← e]
  exact ev_all h
theorem ev_fld {C a dx : Addr} {f : Str} {fs : List (Str × V)} {v : V} {σ : L2.St} {H : Hp} {ta : TE} (h : Ev ta σ H (.ref a)) (hx : H a = some (.ins C dx fs)) (cl : Cls K C) (na : NoAttr K C f) (hl : List.lookup f fs = some v) : Ev (tFld K ta f) σ H v :=
  fun H1 e Q q => h H1 e _ fun H2 e2 => ⟨a, C, dx, fs, v, rfl, e2 _ _ (e _ _ hx), cl, na, hl, q H2 e2⟩
/-! ### Clause's own methods -/
/-- a clause at a, its literals -/
def ClAt (C : Addr) (H : Hp) (a : Addr) (D : List Str) : Prop := ∃ dx p, H a = some (.ins C dx [("literals", .ref p)]) ∧ H p = some (.tup (D.map V.str))
theorem ClAt.mono {C : Addr} {H H' : Hp} {a : Addr} {D : List Str} (c : ClAt C H a D) (e : Ex H H') : ClAt C H' a D := by
  obtain ⟨dx, p, h1, h2⟩ := c
  exact ⟨dx, p, e _ _ h1, e _ _ h2⟩
theorem ty_clause (T : Txt P K mg) {H : Hp} {x dx : Addr} {fs : List (Str × V)} (h : H x = some (.ins T.C_Clause dx fs)) : TyX K H (.ref x) (.ref T.C_Clause) := .base (.ins h T.cl_Clause T.ins_Clause.ha T.ins_Clause.hn T.ins_Clause.htk T.ins_Clause.hm)
/-- isinstance(o, Clause) of a clause -/
theorem ev_isC (T : Txt P K mg) {σ : L2.St} {H : Hp} {te : TE} {a dx : Addr} {fs : List (Str × V)} (h : Ev te σ H (.ref a)) (hx : H a = some (.ins T.C_Clause dx fs)) : Ev (tCB (rIsi K) (tCons te (tCons (tC (.ref T.C_Clause)) tNil))) σ H (.bl true) :=
  ev_cb (ea_cons h (ea_cons ev_c ea_nil)) fun H1 e Q q => ⟨.ref a, .ref T.C_Clause, .ref T.C_Clause, .ref T.C_Clause, true, rfl, .own _, ty_clause T (e _ _ hx), T.ins_Clause.me, q H1 (Ex.refl H1)⟩
/-- o.literals of a clause -/
theorem ev_lts (T : Txt P K mg) {σ : L2.St} {H : Hp} {te : TE} {a dx p : Addr} (h : Ev te σ H (.ref a)) (hx : H a = some (.ins T.C_Clause dx [("literals", .ref p)])) : Ev (tFld K te "literals") σ H (.ref p) := ev_fld h hx T.cl_Clause T.na_Clause_literals rfl
end
section
open Evl
/-- the same flat thing -/
theorem ev_sN {σ : L2.St} {H : Hp} {ta tb : TE} {n : Nat} {x : V} {E : XK} (ha : Ev ta σ H x) (hb : Ev tb σ H x) (f : flat4 x = true) : Ev (tCall (spSameN n) [] E (tCons ta (tCons tb tNil))) σ H (.bl true) :=
  ev_call (ea_cons ha (ea_cons hb ea_nil)) fun H1 _ Q q E => ⟨x, x, rfl, .flat f, q⟩
/-- a tuple of texts and a new one -/
theorem ev_sNU {σ : L2.St} {H : Hp} {ta tb : TE} {n : Nat} {p : Addr} {L : List Str} {E : XK} (ha : Ev ta σ H (.ref p)) (hp : H p = some (.tup (L.map V.str))) (hb : EvU tb σ H (L.map V.str)) (few : L.length ≤ 100) : Ev (tCall (spSameN (n + 1)) [] E (tCons ta (tCons tb tNil))) σ H (.bl true) := fun H1 e1 Q q =>
  ha H1 e1 _ fun H2 e2 => hb H2 (e1.trans e2) _ fun r H3 nr e3 hr => ⟨_, _, rfl, .txtT (e3 _ _ (e2 _ _ (e1 _ _ hp))) hr few, fun H4 e4 => q H4 ((e2.trans e3).trans e4)⟩
end
theorem ord_any (L : List Str) : ∃ N, Ord L N := by
  have perm := List.mergeSort_perm L (fun a b => decide (a.cps.toList ≤ b.cps.toList))
  have srt : (L.mergeSort (fun a b => decide (a.cps.toList ≤ b.cps.toList))).Pairwise leS := by
    have z := List.pairwise_mergeSort (le := fun a b => decide (a.cps.toList ≤ b.cps.toList)) (fun a b c h1 h2 => by
      simp only [decide_eq_true_eq] at h1 h2 ⊢
      exact leS_trans h1 h2) (fun a b => by
      simp only [Bool.or_eq_true, decide_eq_true_eq]
      exact List.le_total _ _) L
    exact z.imp fun h => of_decide_eq_true h
  obtain ⟨a, b, c⟩ := dd_spec (L.mergeSort (fun a b => decide (a.cps.toList ≤ b.cps.toList))) [] .nil srt
  exact ⟨_, a, b, fun x => by rw [c x, perm.mem_iff]; simp⟩
section
open Evl
/-- a list somewhere -/
def EvLs (te : TE) (σ : L2.St) (H : Hp) (xs : List V) : Prop := ∀ H1, Ex H H1 → ∀ Q : VK, (∀ p H2, Ex H1 H2 → H2 p = some (.lst xs) → Q (.ref p) H2) → te σ H1 Q
theorem els_new {te : TE} {σ : L2.St} {H : Hp} {xs : List V} (h : EvL te σ H xs) : EvLs te σ H xs := fun H1 e1 Q q => h H1 e1 Q fun p H2 _ e2 hp => q p H2 e2 hp
theorem els_at {te : TE} {σ : L2.St} {H : Hp} {xs : List V} {p : Addr} (h : Ev te σ H (.ref p)) (hp : H p = some (.lst xs)) : EvLs te σ H xs := fun H1 e1 Q q => h H1 e1 Q fun H2 e2 => q p H2 e2 (e2 _ _ (e1 _ _ hp))
theorem el_cat {ta tb : TE} {σ : L2.St} {H : Hp} {xs ys : List V} (h1 : EvLs ta σ H xs) (h2 : EvLs tb σ H ys) (len : xs.length + ys.length ≤ 100000) : EvL (tOp rCat ta tb) σ H (xs ++ ys) := fun H1 e1 Q q =>
  h1 H1 e1 _ fun p H2 e2 hp => h2 H2 (e1.trans e2) _ fun r H3 e3 hr => ⟨p, r, xs, ys, rfl, rfl, e3 _ _ hp, hr, sz_of len, fun l nl => q l _ (fresh_back (e2.trans e3) nl) ((e2.trans e3).trans (Ex.new nl)) upd_same⟩
end
section
open Evl
theorem lit_txt {z : Str} (h : isLit z = true) : Txt8 10 z := by
  have n : isName (bare z) = true := h
  rcases lit_form (z := z) with e | e
  · rw [e]; exact (name_txt n).mono (by decide)
  · rw [e]; exact ((show Txt8 1 "-" from ⟨by decide, by decide⟩).app (name_txt n)).mono (by decide)
theorem empty_app (z : Str) : "" ++ z = z := str_eq (by rw [app_codes]; rfl)
/-- a row: literals of different names, at most n -/
structure RowL (n : Nat) (L : List Str) : Prop where
  few : L.length ≤ n
  lit : ∀ z ∈ L, isLit z = true
  apart : (L.map bare).Nodup
theorem RowL.mono {n m : Nat} {L : List Str} (r : RowL n L) (h : n ≤ m) : RowL m L := ⟨Nat.le_trans r.few h, r.lit, r.apart⟩
theorem RowL.nil : RowL 0 [] := ⟨Nat.le_refl _, (fun z hz => (by cases hz)), List.nodup_nil⟩
theorem bare_out {L : List Str} {n : Str} (h1 : n ∉ L) (h2 : ("-" ++ n) ∉ L) : n ∉ L.map bare := fun h => by
  obtain ⟨z, hz, e⟩ := List.mem_map.mp h
  rcases lit_form (z := z) with q | q
  · rw [e] at q; rw [q] at hz; exact h1 hz
  · rw [e] at q; rw [q] at hz; exact h2 hz
theorem RowL.add {n : Nat} {L : List Str} {z : Str} (r : RowL n L) (hz : isLit z = true) (h : bare z ∉ L.map bare) : RowL (n + 1) (L ++ [z]) :=
  ⟨by rw [List.length_append, List.length_singleton]; have := r.few; omega, fun y hy => by
    rcases List.mem_append.mp hy with q | q
    · exact r.lit y q
    · rw [List.mem_singleton.mp q]; exact hz, by
    rw [List.map_append, List.nodup_append]
    refine ⟨r.apart, by simp, fun a ha b hb => ?_⟩
    rw [List.map_cons, List.map_nil, List.mem_singleton] at hb
    intro e
    rw [e, hb] at ha
    exact h ha⟩
/-- _law_row(source, names, most) -/
def spRow : Sp := fun vs H Q _ => ∃ (a l : Addr) (ns : List Int) (b : Addr) (nms : List Str) (m : Nat), vs = [.ref a, .ref b, .int (m : Int)] ∧ m ≤ 20 ∧ SrcL H a l ns ∧ H b = some (.lst (nms.map V.str)) ∧ b ≠ a ∧ 0 < nms.length ∧ nms.length ≤ 40 ∧ (∀ z ∈ nms, isName z = true) ∧
  ∀ (H' : Hp) (p : Addr) (L : List Str), H p = none → SrcL H' a l ns → But a H H' → H' p = some (.lst (L.map V.str)) → RowL m L → (∀ z ∈ L, bare z ∈ nms) → Q (.ref p) H'
theorem ok__law_row (T : Txt P K mg) : FnOk P w K mg base CX0 2 T.f__law_row T.d__law_row ["_law_source_here", "_law_names_here", "_law_most"] spRow := by
  refine T.F__law_row.ok sc__law_row (fun vs H Q E h => ?_) (fun cdv A outer s H vs Q E hr h => ?_)
  · obtain ⟨a, l, ns, b, nms, m, rfl, _⟩ := h
    rfl
  · obtain ⟨a, l, ns, b, nms, m, rfl, m20, S, hb, ba, n0, n40, nm, q⟩ := h
    refine ⟨_, (pss_cons (ps_set (i := 3) sc__law_row.nd rfl (.inl rfl) (pe_lst pa_nil))
      (pss_cons (ps_for PassesOwn.never rfl (pi_range1 rfl T.n_range (pa_cons (pe_call (okL__law_take T) (hr.mono (by decide)) rfl T.g__law_take T.F__law_take.kp T.b__law_take .nil pass0 (pa_cons (pv 0) (pa_cons (pe_op op_add (pv 2) pe_int) pa_nil))) pa_nil)) (pg_name (i := 4) sc__law_row.nd rfl (.inl rfl)) (pss_cons (ps_set (i := 5) sc__law_row.nd rfl (.inl rfl) (pe_ix ix_list (pv 1) (pe_call (okL__law_take T) (hr.mono (by decide)) rfl T.g__law_take T.F__law_take.kp T.b__law_take .nil pass0 (pa_cons (pv 0) (pa_cons (pe_callB call_len_seq (by rfl) T.n_len PySem.boot_len (pa_cons (pv 1) pa_nil)) pa_nil))) (fun _ _ => rfl)))
      (pss_one (ps_if (PW.pt (pw_and (pt_cmpR op_notIn_seq (pv 5) (pv 3) (by rfl)) (pw_and1 (pt_cmpR op_notIn_seq (pe_op op_add_str pe_str (pv 5)) (pv 3) (by rfl))))) (pss_one (ps_expr (pe_bm PySem.F.plainAttrs_list PySem.F.slot_list_append PySem.F.type_list_append mt_append (pv 3) (pa_cons (pe_op op_add_str (pe_ix ix_list (pe_lst (pa_cons pe_str (pa_cons pe_str pa_nil))) (pe_call (okL__law_take T) (hr.mono (by decide)) rfl T.g__law_take T.F__law_take.kp T.b__law_take .nil pass0 (pa_cons (pv 0) (pa_cons pe_int pa_nil))) (fun _ _ => rfl)) (pv 5)) pa_nil)))) pss_nil))))
      (pss_one (ps_ret (pv 3))))), ?_⟩
    refine ⟨(by show 0 ≤ sizeLine; decide), fun p np => ?_⟩
    have offp := srl_off S np
    refine ⟨.ref a, rfl, _, rfl, _, _, rfl, rfl, a, _, l, ns, rfl, srl_new S np, by omega, by omega, fun H1 r r0 r1 S1 B1 => ?_⟩
    have B01 : But a H H1 := fun c o n e => B1 c o n (by rw [upd_ne (ne_of_none e np)]; exact e)
    refine ⟨r, rfl, by omega, by omega, for_range (lo := 0) (n := r.toNat) (fun i σ H' => ∃ (L : List Str) (v4 v5 : Option V), σ = [some (V.ref a), some (.ref b), some (.int (m : Int)), some (.ref p), v4, v5] ∧ SrcL H' a l ns ∧ But a H H' ∧ H' p = some (.lst (L.map V.str)) ∧ RowL i L ∧ ∀ z ∈ L, bare z ∈ nms)
      ⟨[], _, _, rfl, S1, B01, B1 p _ offp.1 upd_same, RowL.nil, fun z hz => nomatch hz⟩ ?_ ?_⟩
    · rintro i σ H3 hi ⟨L, v4, v5, rfl, S3, B3, h3, row, ins⟩
      have hb3 := B3 b _ ba hb
      refine ⟨.ref b, rfl, .ref a, rfl, .ref b, rfl, b, _, rfl, .inl (SqL.of hb3), a, _, l, ns, rfl, S3, (by rw [List.length_map]; omega), (by rw [List.length_map]; omega), fun H4 k k0 k1 S4 B4 => ?_⟩
      rw [List.length_map] at k1
      have hb4 := B4 b _ ba hb3
      have h4 := B4 p _ offp.1 h3
      have B04 := B3.trans B4
      have kl : k.toNat < nms.length := by omega
      have hk : (nms.map V.str)[k.toNat]? = some (.str nms[k.toNat]) := by rw [List.getElem?_map, List.getElem?_eq_getElem kl] <;> rfl
      have mn : nms[k.toNat] ∈ nms := List.getElem_mem kl
      have nk := nm nms[k.toNat] mn
      generalize nms[k.toNat] = n at hk nk mn
      have ns := (name_txt nk).1
      refine ⟨b, _, k, _, rfl, rfl, SqL.of hb4, at_of (by omega) hk, ?_⟩
      refine s_when (b := !decide (n ∈ L) && !decide (("-" ++ n) ∈ L)) (et_and (et_test (ev_niStr (ev_var rfl) (ev_var rfl) h4)) (fun _ => et_test (ev_niStr (ev_op (y := .str n) ev_c (ev_var rfl) (fun H5 _ Q q => ⟨"-", n, rfl, rfl, line_of (minus_len (by omega)), q H5 (Ex.refl H5)⟩)) (ev_var rfl) h4))) (fun c H5 e5 => ?_) (fun c H5 e5 => ?_)
      · have c1 : n ∉ L := by
          intro h
          rw [decide_eq_true h] at c
          cases c
        have c2 : ("-" ++ n) ∉ L := by
          intro h
          rw [decide_eq_true h, Bool.and_comm] at c
          cases c
        have S5 := srl_ex S4 e5
        have h5 := e5 _ _ h4
        have B05 : But a H H5 := fun c o n e => e5 _ _ (B04 c o n e)
        refine ⟨.ref p, rfl, Or.inl ⟨rfl, _, SqL.of h5⟩, ?_⟩
        refine ⟨(by show 2 ≤ sizeLine; decide), fun d nd => ⟨.ref a, rfl, a, 2, l, _, rfl, srl_new S5 nd, by decide, by decide, fun H6 t t0 t1 S6 B6 => ?_⟩⟩
        have offd := srl_off S5 nd
        have dp : d ≠ p := fun e => by rw [e, h5] at nd; cases nd
        have hd6 : H6 d = some (.lst [.str "", .str "-"]) := B6 d _ offd.1 upd_same
        have h6 : H6 p = some (.lst (L.map V.str)) := B6 p _ offp.1 (by rw [upd_ne dp.symm]; exact h5)
        have B06 : But a H H6 := B05.trans fun c o n e => B6 c o n (by rw [upd_ne (ne_of_none e nd)]; exact e)
        obtain ⟨ds, hds, dd2⟩ : ∃ ds : Str, ([V.str "", .str "-"] : List V)[t.toNat]? = some (.str ds) ∧ (ds = "" ∨ ds = "-") := by
          have h2 : t = 0 ∨ t = 1 := by omega
          rcases h2 with rfl | rfl
          · exact ⟨"", rfl, .inl rfl⟩
          · exact ⟨"-", rfl, .inr rfl⟩
        have z9 : isLit (ds ++ n) = true ∧ bare (ds ++ n) = n := by
          rcases dd2 with rfl | rfl
          · rw [empty_app]; exact ⟨name_lit nk, bare_no (name_dash nk)⟩
          · exact ⟨minus_lit nk, bare_minus n⟩
        have d1 : ds.length ≤ 1 := by rcases dd2 with rfl | rfl <;> decide
        refine ⟨d, _, t, _, rfl, rfl, SqL.of hd6, at_of (by omega) hds, _, rfl, _, _, rfl, rfl, line_of ?_, p, _, _, rfl, rfl, h6, ?_, ?_⟩
        · have h2 : n.length = n.cps.size := rfl
          omega
        · rw [List.length_map]; have := row.few; exact Evl.sz_lt (by omega)
        · exact ⟨L ++ [ds ++ n], _, _, rfl, srl_put S6 offp.1 offp.2, B06.upd2 np, by rw [upd_same, List.map_append] <;> rfl, row.add z9.1 (by rw [z9.2]; exact bare_out c1 c2), fun z hz => by
            rcases List.mem_append.mp hz with u | u
            · exact ins z u
            · rw [List.mem_singleton.mp u, z9.2]; exact mn⟩
      · exact ⟨L, _, _, rfl, srl_ex S4 e5, fun c o n e => e5 _ _ (B04 c o n e), e5 _ _ h4, row.mono (by omega), ins⟩
    · rintro σ H3 ⟨L, v4, v5, rfl, S3, B3, h3, row, ins⟩
      exact ⟨_, rfl, q H3 p L np S3 B3 h3 (row.mono (by omega)) ins⟩
end
section
open Evl
theorem passN0 {X : Cx} : Passes (L2N.CX X.prog X.w) X E0 := fun _ _ _ _ _ _ _ h => by
  obtain ⟨a, B, H', cls, d, _, _, _, _, _, _, _, he⟩ := h
  exact he.elim
end
theorem bothIn_cong {A B : List Str} (h : ∀ z, z ∈ A ↔ z ∈ B) : bothIn A = bothIn B := by
  funext n
  unfold bothIn
  rw [decide_eq_decide.mpr (h n), decide_eq_decide.mpr (h ("-" ++ n))]
theorem due_cong {A B N : List Str} (h : ∀ z, z ∈ A ↔ z ∈ B) : due A N = due B N := by
  have e : pick A = pick B := by
    funext n
    unfold pick
    refine List.filter_congr fun z _ => ?_
    exact decide_eq_decide.mpr (h z)
  unfold due
  rw [e]
section
open Evl
theorem inj_nodup {L : List Str} : (L.map bare).Nodup → ∀ x ∈ L, ∀ y ∈ L, bare x = bare y → x = y := by
  induction L with
  | nil => intro _ x hx; cases hx
  | cons a r ih =>
    intro nd x hx y hy e
    rw [List.map_cons, List.nodup_cons] at nd
    obtain ⟨n1, n2⟩ := nd
    have out : ∀ {u : Str}, u ∈ r → bare u ≠ bare a := fun hu q => n1 (List.mem_map.mpr ⟨_, hu, q⟩)
    rcases List.mem_cons.mp hx with q1 | q1
    · rcases List.mem_cons.mp hy with q2 | q2
      · rw [q1, q2]
      · rw [q1] at e; exact (out q2 e.symm).elim
    · rcases List.mem_cons.mp hy with q2 | q2
      · rw [q2] at e; exact (out q1 e).elim
      · exact ih n2 x q1 y q2 e
theorem nodup_of_map {L : List Str} (h : (L.map bare).Nodup) : L.Nodup := by
  induction L with
  | nil => exact List.nodup_nil
  | cons a r ih =>
    rw [List.map_cons, List.nodup_cons] at h
    exact List.nodup_cons.mpr ⟨fun m => h.1 (List.mem_map.mpr ⟨a, m, rfl⟩), ih h.2⟩
theorem minus_ne (n : Str) : ("-" ++ n) ≠ n := fun e => by
  have z := congrArg (fun x : Str => x.cps.toList.length) e
  simp only [minus_codes, List.length_cons] at z
  omega
theorem RowL.one {k : Nat} {L : List Str} (r : RowL k L) (n : Str) : bothIn L n = false := by
  cases e : bothIn L n with
  | false => rfl
  | true =>
    unfold bothIn at e
    obtain ⟨a, b⟩ := Bool.and_eq_true_iff.mp e
    have h1 := of_decide_eq_true a
    have h2 := of_decide_eq_true b
    have ln := r.lit _ h2
    have nm : isName n = true := by have z := lit_bare ln; rwa [bare_minus] at z
    have eb : bare ("-" ++ n) = bare n := by rw [bare_minus, bare_no (name_dash nm)]
    exact absurd (inj_nodup r.apart _ h2 _ h1 eb) (minus_ne n)
theorem due_nodup {L N : List Str} (nd : N.Nodup) (h : ∀ n ∈ N, dash n = false) : (due L N).Nodup := by
  unfold due List.Nodup
  rw [List.pairwise_flatMap]
  refine ⟨fun n hn => ?_, ?_⟩
  · have two : ([n, "-" ++ n] : List Str).Nodup := by
      refine List.nodup_cons.mpr ⟨fun m => ?_, by simp⟩
      exact minus_ne n (List.mem_singleton.mp m).symm
    exact two.sublist List.filter_sublist
  · refine List.Pairwise.imp_of_mem (fun {a b} ha hb ne x hx y hy e => ?_) nd
    have e1 := (bare_pick (h a ha) hx).1
    have e2 := (bare_pick (h b hb) hy).1
    rw [e, e2] at e1
    exact ne e1.symm
theorem RowL.ndash {k : Nat} {L N : List Str} (r : RowL k L) (od : Ord (L.map bare) N) : ∀ n ∈ N, dash n = false := fun n hn => by
  obtain ⟨z, hz, rfl⟩ := List.mem_map.mp ((od.mem n).mp hn)
  exact name_dash (lit_bare (r.lit z hz))
theorem RowL.due_len {k : Nat} {L N : List Str} (r : RowL k L) (od : Ord (L.map bare) N) : (due L N).length = L.length :=
  Nat.le_antisymm (perm_len_le (due_nodup od.nd (r.ndash od)) fun x hx => (due_mem od x).mp hx) (perm_len_le (nodup_of_map r.apart) fun x hx => (due_mem od x).mpr hx)
theorem mem_bare {A B : List Str} (h : ∀ x, x ∈ A ↔ x ∈ B) (n : Str) : n ∈ A.map bare ↔ n ∈ B.map bare := by
  rw [List.mem_map, List.mem_map]
  exact ⟨fun ⟨z, a, b⟩ => ⟨z, (h z).mp a, b⟩, fun ⟨z, a, b⟩ => ⟨z, (h z).mpr a, b⟩⟩
/-- a clause of the texts of L is made, where these are the literals of the row R -/
theorem mkl_row {C CB CS CT : Addr} {L R N : List Str} {H : Hp} {Q : VK} {E : XK} (row : RowL 6 R) (h : ∀ z, z ∈ L ↔ z ∈ R) (od : Ord (R.map bare) N) (k : ∀ x H', Ex H H' → ClAt C H' x (due R N) → Q (.ref x) H') : MkL C CB CS CT L H Q E where
  bad pre z post e yes no := absurd (row.lit z ((h z).mp (by rw [e]; simp))) (by rw [no]; decide)
  sign lits N' od' n fn := by
    have z := List.find?_some fn
    rw [bothIn_cong h, row.one] at z
    cases z
  many lits N' od' fn big := by
    rw [due_cong h, (od'.uniq od (mem_bare h)), row.due_len od] at big
    exact absurd row.few (by omega)
  good lits N' od' fn small H' x dx p e hx hp := by
    rw [due_cong h, (od'.uniq od (mem_bare h))] at hp
    exact k x H' e ⟨dx, p, hx, hp⟩
/-- a clause somewhere -/
def EvC (C : Addr) (te : TE) (σ : L2.St) (H : Hp) (D : List Str) : Prop := ∀ H1, Ex H H1 → ∀ Q : VK, (∀ x H2, Ex H1 H2 → ClAt C H2 x D → Q (.ref x) H2) → te σ H1 Q
theorem RowL.txt {k : Nat} {L : List Str} (r : RowL k L) : ∀ z ∈ L, Txt8 99 z := fun z hz => (lit_txt (r.lit z hz)).mono (by decide)
/-- _law_clause(row) -/
theorem ec_clause {C CB CS CT : Addr} {σ : L2.St} {H : Hp} {te : TE} {L N : List Str} {r : Addr} (h : Ev te σ H (.ref r)) (hr : H r = some (.lst (L.map V.str))) (row : RowL 6 L) (od : Ord (L.map bare) N) :
    EvC C (tCall (spClause C CB CS CT 6) [] E0 (tCons te tNil)) σ H (due L N) := fun H1 e1 Q q => h H1 e1 _ fun H2 e2 => ⟨r, L, rfl, e2 _ _ (e1 _ _ hr), row.few, row.txt, mkl_row row (fun _ => Iff.rfl) od fun x H3 e3 c => q x H3 (e2.trans e3) c⟩
end
section
open Evl
/-- the text of a clause -/
def ctext (D : List Str) : Str := if D = [] then "0" else Txt.join " | " D
/-- literals of a clause, good enough for its reports -/
def LitsOk (D : List Str) : Prop := D.length ≤ 12 ∧ ∀ z ∈ D, isLit z = true ∧ Txt8 20 z
theorem sum_le : ∀ {L : List Str} {k : Nat}, (∀ z ∈ L, z.length ≤ k) → (L.map (·.length)).sum ≤ L.length * k
  | [], _, _ => by simp
  | z :: r, k, h => by
    have a := h z List.mem_cons_self
    have b := sum_le (L := r) (k := k) fun y hy => h y (List.mem_cons_of_mem _ hy)
    simp only [List.map_cons, List.sum_cons, List.length_cons]
    have e : (r.length + 1) * k = r.length * k + k := Nat.succ_mul _ _
    omega
/-- sep.join(texts) -/
theorem ev_join {σ : L2.St} {H : Hp} {te : TE} {sep : Str} {p : Addr} {L : List Str} (h : Ev te σ H (.ref p)) (hp : SqL K H p (L.map V.str) ∨ SqT K H p (L.map V.str)) (few : L.length ≤ 100) (short : ∀ z ∈ L, z.cps.size ≤ 50) (s5 : sep.length ≤ 5) :
    Ev (tBM K "str" (fun x xs H Q => ∃ a p, ∃ ys : List Str, x = .str a ∧ xs = [.ref p] ∧ (SqL K H p (ys.map V.str) ∨ SqT K H p (ys.map V.str)) ∧ (ys.map (·.length)).sum + ys.length * a.length ≤ 16777216 ∧ Q (.str (Txt.join a ys)) H) (tC (.str sep)) (tCons te tNil)) σ H (.str (Txt.join sep L)) := fun H1 e1 Q q =>
  ⟨rfl, h H1 e1 _ fun H2 e2 => ⟨sep, p, L, rfl, rfl, hp.elim (fun z => .inl (ex_l (e1.trans e2) z)) (fun z => .inr (ex_t (e1.trans e2) z)), by
    have a := sum_le (L := L) (k := 50) short
    have b : L.length * sep.length ≤ 100 * 5 := Nat.mul_le_mul few s5
    omega, q H2 e2⟩⟩
def spCStr (C : Addr) : Sp := fun vs H Q _ => ∃ (a : Addr) (D : List Str), vs = [.ref a] ∧ ClAt C H a D ∧ LitsOk D ∧ ∀ H', Ex H H' → Q (.str (ctext D)) H'
theorem ok_Clause_str (T : Txt P K mg) : FnOk P w K mg base CX0 1 T.f_Clause_str T.d_Clause_str ["self"] (spCStr T.C_Clause) := by
  refine T.F_Clause_str.ok sc_Clause_str (fun vs H Q E h => ?_) (fun cdv A outer s H vs Q E hr h => ?_)
  · obtain ⟨a, D, rfl, _⟩ := h
    rfl
  · obtain ⟨a, D, rfl, ⟨dx, p, ha, hp⟩, ⟨few, lit⟩, q⟩ := h
    refine ⟨_, (pss_cons (ps_if (pt_not (pt_truth (pe_fld (pv 0) rfl) (by intro _; rfl))) (pss_one (ps_ret pe_str)) pss_nil)
      (pss_one (ps_ret (pe_bm PySem.F.plainAttrs_str PySem.F.slot_str_join PySem.F.type_str_join mt_join pe_str (pa_cons (pe_fld (pv 0) rfl) pa_nil))))), ?_⟩
    have tr : EvT (fun σ H Q => tFld K (tVar 0) "literals" σ H fun x H' => ∃ k, TruV K x H' k ∧ Q k H') [some (V.ref a)] H (!(D.map V.str).isEmpty) := fun H1 e1 Q q => (ev_lts T (ev_var rfl) ha) H1 e1 _ fun H2 e2 => ⟨_, .inr (.inl ⟨_, st_of (e2 _ _ (e1 _ _ hp)), rfl⟩), q H2 e2⟩
    refine q_when (b := (D.map V.str).isEmpty) (et_is (et_not tr) (by simp)) (fun c H1 e1 => ?_) (fun c H1 e1 => ?_)
    · have e : D = [] := by simpa using c
      subst e
      exact s_ret ev_c fun H2 e2 => q H2 (e1.trans e2)
    · have ne : D ≠ [] := by intro e; rw [e] at c; cases c
      have z := ev_join (K := K) (sep := " | ") (ev_lts T (te := tVar 0) (σ := [some (V.ref a)]) (ev_var rfl) (e1 _ _ ha)) (.inr (st_of (e1 _ _ hp))) (by omega) (fun z m => Nat.le_trans (lit z m).2.1 (by decide)) (by decide)
      refine s_ret z fun H2 e2 => ?_
      have e : ctext D = Txt.join " | " D := if_neg ne
      rw [← e]
      exact q H2 (e1.trans e2)
/-- str(c) -/
theorem ev_strC {C : Addr} {σ : L2.St} {H : Hp} {te : TE} {a : Addr} {D : List Str} {E : XK} (h : Ev te σ H (.ref a)) (c : ClAt C H a D) (ok : LitsOk D) : Ev (tCB (rStrO C (spCStr C) E) (tCons te tNil)) σ H (.str (ctext D)) :=
  ev_cb (ea_cons h ea_nil) fun H1 e Q q => by
    have c2 := c.mono e
    obtain ⟨dx, p, ha, hp⟩ := id c2
    exact ⟨a, dx, _, rfl, ha, a, D, rfl, c2, ok, fun H2 e2 => ⟨_, rfl, q H2 e2⟩⟩
theorem lt_units {n k : Nat} (h : n + 16 * k + 200 < cLine) : n + 64 < cLine := by omega
def spCEq (C : Addr) : Sp := fun vs H Q _ => ∃ (a b : Addr) (D F : List Str), vs = [.ref a, .ref b] ∧ ClAt C H a D ∧ ClAt C H b F ∧ Asc D ∧ Asc F ∧ ∀ H', Ex H H' → Q (.bl (decide (D = F))) H'
theorem ok_Clause_eq (T : Txt P K mg) : FnOk P w K mg base CX0 1 T.f_Clause_eq T.d_Clause_eq ["self", "other"] (spCEq T.C_Clause) := by
  refine T.F_Clause_eq.ok sc_Clause_eq (fun vs H Q E h => ?_) (fun cdv A outer s H vs Q E hr h => ?_)
  · obtain ⟨a, b, D, F, rfl, _⟩ := h
    rfl
  · obtain ⟨a, b, D, F, rfl, ⟨dx, p, ha, hp⟩, ⟨dy, r, hb, hr2⟩, l1, l2, q⟩ := h
    have hu := hr.un
    refine ⟨_, (pss_one (ps_ret (pe_and (pe_callB call_isi (by rfl) T.n_isinstance (by decide +kernel) (pa_cons (pv 1) (pa_cons (pe_glob (v := .ref T.C_Clause) rfl T.g_Clause rfl) pa_nil))) (pe_one (pe_cmpR (op_eqTT (by exact lt_units (k := 0) hu)) (pe_fld (pv 0) rfl) (pe_fld (pv 1) rfl) (nomark _)))))), ?_⟩
    refine s_ret (v := .bl (decide (D = F))) (ev_is (ev_andV (a := true) (ev_isC T (ev_var rfl) hb) (fun _ => ev_op (ev_lts T (ev_var rfl) ha) (ev_lts T (ev_var rfl) hb) (fun H1 e1 Q q => ⟨p, r, D, F, rfl, rfl, st_of (e1 _ _ hp), st_of (e1 _ _ hr2), l1, l2, q H1 (Ex.refl H1)⟩))) (by simp)) fun H1 e1 => q H1 e1
end
/-! ### what is the text of a clause -/
section
open TL
def sepC : Str := " | "
theorem tl_sepC : tl sepC = 32 :: [124, 32] := by decide
theorem spl_ne (S : List Nat) : ∀ (k : Nat) (acc l : List Nat), spl S k acc l ≠ []
  | _, _, [] => by rw [spl_nil]; simp
  | 0, acc, c :: r => by
    unfold spl
    split
    · simp
    · exact spl_ne S 0 _ r
  | k + 1, acc, _ :: r => spl_ne S k acc r
theorem parts_ne (z : Str) : Txt.split z sepC ≠ [] := fun e => by
  have h := split_spl z sepC (by rw [tl_sepC]; simp) (kind_ok (by decide +kernel))
  rw [e] at h
  exact spl_ne _ _ _ _ h.symm
theorem parts_join (z : Str) : Txt.join sepC (Txt.split z sepC) = z := by rw [join_eq]; exact StrLaws.join_split z sepC
theorem sub_joinL {S p : List Nat} : ∀ {ps : List (List Nat)}, p ∈ ps → p.Sublist (joinL S ps)
  | [q], h => by rw [List.mem_singleton.mp h]; exact List.Sublist.refl _
  | q :: q2 :: r, h => by
    show p.Sublist (q ++ (S ++ joinL S (q2 :: r)))
    rcases List.mem_cons.mp h with e | m
    · rw [e]; exact List.sublist_append_left _ _
    · exact (sub_joinL m).trans ((List.sublist_append_right _ _).trans (List.sublist_append_right _ _))
theorem len_joinL {S : List Nat} : ∀ ps : List (List Nat), ps.length * S.length ≤ (joinL S ps).length + S.length
  | [] => by simp
  | [q] => by
    show 1 * S.length ≤ q.length + S.length
    omega
  | q :: q2 :: r => by
    have ih := len_joinL (S := S) (q2 :: r)
    show ((q2 :: r).length + 1) * S.length ≤ (q ++ (S ++ joinL S (q2 :: r))).length + S.length
    rw [Nat.succ_mul, List.length_append, List.length_append]
    omega
theorem parts_tl (z : Str) : joinL (tl sepC) ((Txt.split z sepC).map tl) = tl z := by rw [← tl_join, StrLaws.join_split]
theorem part_txt {z p : Str} {n : Nat} (t : Txt8 n z) (h : p ∈ Txt.split z sepC) : Txt8 n p := by
  have s : (tl p).Sublist (tl z) := by rw [← parts_tl z]; exact sub_joinL (List.mem_map_of_mem h)
  have l : p.cps.size = (tl p).length := by simp [tl]
  have l2 : z.cps.size = (tl z).length := by simp [tl]
  exact ⟨by rw [l]; exact Nat.le_trans s.length_le (by rw [← l2]; exact t.1), fun c hc => t.2 c (s.subset hc)⟩
theorem parts_few {z : Str} {n : Nat} (t : Txt8 n z) : (Txt.split z sepC).length * 3 ≤ n + 3 := by
  have h := len_joinL (S := tl sepC) ((Txt.split z sepC).map tl)
  rw [parts_tl, List.length_map] at h
  have l2 : z.cps.size = (tl z).length := by simp [tl]
  have l3 : (tl sepC).length = 3 := by rw [tl_sepC]; rfl
  rw [l3] at h
  have := t.1
  omega
/-- a literal has no blank -/
theorem lit_blank {z : Str} (h : isLit z = true) : 32 ∉ tl z := fun m => by
  have nb : isName (bare z) = true := h
  obtain ⟨_, _, _, al⟩ := name_len nb
  have no : 32 ∉ (bare z).cps.toList := fun m2 => absurd (List.all_eq_true.mp al 32 m2) (by decide)
  rcases lit_form (z := z) with e | e
  · rw [e] at m; exact no m
  · rw [e] at m
    have m2 : (32 : Nat) ∈ ("-" ++ bare z).cps.toList := m
    rw [minus_codes] at m2
    rcases List.mem_cons.mp m2 with e2 | m3
    · cases e2
    · exact no m3
theorem split_back {D : List Str} (ne : D ≠ []) (lit : ∀ y ∈ D, isLit y = true) : Txt.split (Txt.join sepC D) sepC = D :=
  split_join tl_sepC (by decide +kernel) ne fun p hp => lit_blank (lit p hp)
/-- the literals that a text tells -/
def litsOf (z : Str) : List Str := if z = "0" then [] else Txt.split z sepC
structure Good (z : Str) : Prop where
  row : RowL 6 (litsOf z)
  ord : ∀ N, Ord ((litsOf z).map bare) N → due (litsOf z) N = litsOf z
theorem good_zero : Good "0" := by
  have e : litsOf "0" = [] := if_pos rfl
  refine ⟨by rw [e]; exact RowL.nil.mono (by decide), fun N od => ?_⟩
  rw [e] at od ⊢
  cases N with
  | nil => rfl
  | cons n r => exact absurd ((od.mem n).mp List.mem_cons_self) (by simp)
theorem good_text {z : Str} (g : Good z) : ctext (litsOf z) = z := by
  by_cases e : z = "0"
  · subst e
    have e : litsOf "0" = [] := if_pos rfl
    rw [e]
    rfl
  · have e2 : litsOf z = Txt.split z sepC := if_neg e
    unfold ctext
    rw [e2, if_neg (parts_ne z)]
    exact parts_join z
/-- a text other than 0: a clause was made of its parts -/
theorem good_iff {z : Str} {N : List Str} (nz : z ≠ "0") (od : Ord ((Txt.split z sepC).map bare) N) (lit : ∀ y ∈ Txt.split z sepC, isLit y = true) (one : N.find? (bothIn (Txt.split z sepC)) = none) (few : (due (Txt.split z sepC) N).length ≤ 6) :
    Good z ↔ ctext (due (Txt.split z sepC) N) = z := by
  have e2 : litsOf z = Txt.split z sepC := if_neg nz
  have dl : ∀ y ∈ due (Txt.split z sepC) N, isLit y = true := fun y hy => lit y ((due_mem od y).mp hy)
  have dne : due (Txt.split z sepC) N ≠ [] := fun e => by
    cases hs : Txt.split z sepC with
    | nil => exact parts_ne z hs
    | cons a r =>
      have m : a ∈ due (Txt.split z sepC) N := (due_mem od a).mpr (by rw [hs]; exact List.mem_cons_self)
      rw [e] at m
      cases m
  constructor
  · intro g
    have o := g.ord N (by rw [e2]; exact od)
    rw [e2] at o
    rw [o, ← e2]
    exact good_text g
  · intro t
    unfold ctext at t
    rw [if_neg dne] at t
    have o : due (Txt.split z sepC) N = Txt.split z sepC := by
      have b := split_back dne dl
      have t' : Txt.join sepC (due (Txt.split z sepC) N) = z := t
      rw [t'] at b
      exact b.symm
    refine ⟨⟨by rw [e2, ← o]; exact few, by rw [e2]; exact lit, ?_⟩, fun N' od' => ?_⟩
    · rw [e2]
      have nd : ∀ n ∈ N, dash n = false := fun n hn => by
        obtain ⟨y, hy, ey⟩ := List.mem_map.mp ((od.mem n).mp hn)
        rw [← ey]
        exact name_dash (lit y hy)
      have ndD := due_nodup (L := Txt.split z sepC) od.nd nd
      rw [o] at ndD
      have inj : ∀ x ∈ Txt.split z sepC, ∀ y ∈ Txt.split z sepC, bare x = bare y → x = y := fun x hx y hy e => by
        have nn : bare x ∈ N := (od.mem _).mpr (List.mem_map.mpr ⟨x, hx, rfl⟩)
        have nb : bothIn (Txt.split z sepC) (bare x) = false := by
          have q := List.find?_eq_none.mp one (bare x) nn
          cases c : bothIn (Txt.split z sepC) (bare x) with
          | false => rfl
          | true => exact absurd c q
        unfold bothIn at nb
        rcases lit_form (z := x) with ex | ex
        · rcases lit_form (z := y) with ey | ey
          · rw [ex, ey, e]
          · rw [decide_eq_true (by rw [← ex]; exact hx), decide_eq_true (by rw [e, ← ey]; exact hy)] at nb
            cases nb
        · rcases lit_form (z := y) with ey | ey
          · rw [decide_eq_true (by rw [e, ← ey]; exact hy), decide_eq_true (by rw [← ex]; exact hx)] at nb
            cases nb
          · rw [ex, ey, e]
      exact List.pairwise_map.mpr (List.Pairwise.imp_of_mem (fun ha hb ne e => ne (inj _ ha _ hb e)) ndD)
    · rw [e2] at od' ⊢
      rw [od'.uniq od fun _ => Iff.rfl]
      exact o
end
section
open Evl
/-- Clause() -/
theorem ec_nil {C CB CS CT : Addr} {σ : L2.St} {H : Hp} {E : XK} : EvC C (StX.tMakeR C (spInitR C CB CS CT) E tNil) σ H [] := fun H1 e1 Q q => by
  have n0 : ∀ {N : List Str}, Ord (([] : List Str).map bare) N → N = [] := fun od => List.eq_nil_iff_forall_not_mem.mpr fun x h => by
    have z := (od.mem x).mp h
    cases z
  have d0 : due [] [] = [] := rfl
  refine mk_args (L := []) (by decide) (fun z m => nomatch m) (fun H2 e2 Q k => k H2 (Ex.refl H2)) ⟨fun pre z post h => absurd h (by simp), fun _ N od n f => ?_, fun _ N od f l => ?_, fun _ N od f l H' x dx p e hx hp => ?_⟩
  · rw [n0 od] at f; cases f
  · rw [n0 od, d0] at l; exact absurd l (by decide)
  · rw [n0 od, d0] at hp
    exact q x H' e ⟨dx, p, hx, hp⟩
/-- str(c) of a clause somewhere -/
theorem ev_strE {C : Addr} {σ : L2.St} {H : Hp} {te : TE} {D : List Str} {E : XK} (h : EvC C te σ H D) (ok : LitsOk D) : Ev (tCB (rStrO C (spCStr C) E) (tCons te tNil)) σ H (.str (ctext D)) := fun H1 e1 Q q =>
  h H1 e1 _ fun x H2 e2 c => by
    obtain ⟨dx, p, ha, hp⟩ := id c
    exact ⟨x, dx, _, rfl, ha, x, D, rfl, c, ok, fun H3 e3 => ⟨_, rfl, q H3 (e2.trans e3)⟩⟩
/-- z.split(" | ") -/
theorem el_split {te : TE} {σ : L2.St} {H : Hp} {z : Str} {n : Nat} (h : Ev te σ H (.str z)) (t : Txt8 n z) (hn : n ≤ 900) : EvL (tBM K "str" (fun x xs H Q => ∃ a b, x = .str a ∧ xs = [.str b] ∧ (b.length == 0) = false ∧ a.length + 2 ≤ sizeLine ∧ rNewStrs (Txt.split a b) H Q) te (tCons (tC (.str " | ")) tNil)) σ H ((Txt.split z sepC).map V.str) :=
  fun H1 e Q q => h H1 e _ fun H2 e2 => ⟨rfl, ⟨z, " | ", rfl, rfl, by decide, line_of (by have a : z.length = z.cps.size := rfl; have := t.1; omega), fun p np => q p _ (fresh_back e2 np) (e2.trans (Ex.new np)) upd_same⟩⟩
/-- C(*parts) -/
theorem mk_star {C CB CS CT : Addr} {L : List Str} {σ : L2.St} {H : Hp} {Q : VK} {E : L2.St → XK} {te : TE} {r : Addr} (few : L.length ≤ 90) (txt : ∀ z ∈ L, Txt8 99 z) (h : Ev te σ H (.ref r)) (hr : H r = some (.lst (L.map V.str))) (go : MkL C CB CS CT L H Q (E σ)) :
    tMakeSS K C (spInitR C CB CS CT) E te σ H Q :=
  h H (Ex.refl H) _ fun H1 e1 => ⟨r, L.map V.str, rfl, .inr (sq_of (e1 _ _ hr)), mk_args (σ := σ) (ta := fun _ H Q => Q (L.map V.str) H) few txt (fun H2 e2 Q k => k H2 (Ex.refl H2)) (go.mono e1)⟩
theorem q_tryMk {C CB CS CT : Addr} {L : List Str} {σ : L2.St} {H : Hp} {te : TE} {r : Addr} {WF : Ends → WX} {i : Nat} {tz : TS} {D : Ends} (few : L.length ≤ 90) (txt : ∀ z ∈ L, Txt8 99 z) (h : Ev te σ H (.ref r)) (hr : H r = some (.lst (L.map V.str)))
    (go : MkL C CB CS CT L H (fun v H' => tz D (σ.set i (some v)) H') (fun cls d H' => WF { D with nx := tz D } cls d σ H')) : tSeq (fun D σ H => tAsg (tMakeSS K C (spInitR C CB CS CT) (WE (WF D)) te) (gName i) D σ H) tz D σ H :=
  mk_star (E := WE (WF { D with nx := tz D })) few txt h hr go
theorem lits_row {D : List Str} (r : RowL 6 D) : LitsOk D := ⟨Nat.le_trans r.few (by decide), fun z m => ⟨r.lit z m, (lit_txt (r.lit z m)).mono (by decide)⟩⟩
/-- _clause_in(text, line) -/
def spRead (C CT : Addr) : Sp := fun vs H Q E => ∃ (z : Str) (n : Int), vs = [.str z, .int n] ∧ Txt8 99 z ∧ n.natAbs.log2 < 1920 ∧ (toString n : Str).length ≤ 1000 ∧
  (Good z → ∀ H' x, Ex H H' → ClAt C H' x (litsOf z) → Q (.ref x) H') ∧ (¬ Good z → ∀ H' d, Ex H H' → H' d = some (.xd [("line", .int n)]) → E (.ref CT) (some d) H')
theorem exm_all {nm : Str} {A C fI : Addr} {pars : Arguments} {body : List Stmt} {sc : Scope} (TC : Cls1 P K mg nm C fI pars body sc) (su : PySem.W.subIn K (.ref A) (.ref C) = some false) : PySem.W.exmOne K (.ref A) (.ref C) = some false := by
  obtain ⟨n, q, N, bs, bm, sn, sub, ab, col, dd, k0, k1, k2, k3, k5, hC, _⟩ := TC.cls
  have hcl : (PySem.W.clsIn K C).isSome = true := by unfold PySem.W.clsIn; rw [hC] <;> rfl
  have e1 : (PySem.W.subIn K (.ref C) (.type "BaseException") == some true) = true := by rw [TC.exC] <;> rfl
  have e2 : ((PySem.W.clsIn K C).isSome && PySem.W.typeIn K (.ref C) == some (.type "type")) = true := by rw [hcl, TC.tyC] <;> rfl
  show (if (PySem.W.subIn K (.ref C) (.type "BaseException") == some true) = true then (if ((PySem.W.clsIn K C).isSome && PySem.W.typeIn K (.ref C) == some (.type "type")) = true then PySem.W.subIn K (.ref A) (.ref C) else none) else none) = some false
  rw [if_pos e1, if_pos e2]
  exact su
theorem any3 {cls a b c : Value} {x y z : Bool} (h1 : PySem.W.exmOne K cls a = some x) (h2 : PySem.W.exmOne K cls b = some y) (h3 : PySem.W.exmOne K cls c = some z) : PySem.W.exmAny K cls [a, b, c] = some (x || (y || (z || false))) := by
  unfold PySem.W.exmAny
  rw [h1]
  unfold PySem.W.exmAny
  rw [h2]
  unfold PySem.W.exmAny
  rw [h3]
  rfl
theorem ok__clause_in (T : Txt P K mg) : FnOk P w K mg base (L2.CX P w) 11 T.f__clause_in T.d__clause_in ["text", "line"] (spRead T.C_Clause T.C_BadText) := by
  refine T.F__clause_in.okL sc__clause_in (fun vs H Q E h => ?_) (fun cdv A outer s H vs Q E hr h => ?_)
  · obtain ⟨z, n, rfl, _⟩ := h
    rfl
  · obtain ⟨z, n, rfl, t, n1, n2, good, bad⟩ := h
    refine ⟨_, (pss_cons (ps_if (pt_cmpR op_eq (pv 0) (pe_callTy (call_strO T.m_Clause_str T.i_Clause_str (ok_Clause_str T) (hr.mono (by decide)) T.b_Clause_str pass0) (by rfl) T.n_str (by decide +kernel) (pa_cons (pe_makeR0 (mkC T) (okR_Clause_init T) (hr.mono (by decide)) rfl T.g_Clause passN) pa_nil)) (nomark _)) (pss_one (ps_ret (pe_makeR0 (mkC T) (okR_Clause_init T) (hr.mono (by decide)) rfl T.g_Clause passN))) pss_nil)
      (pss_cons (ps_set (i := 2) sc__clause_in.nd rfl (.inl rfl) (pe_bm PySem.F.plainAttrs_str PySem.F.slot_str_split PySem.F.type_str_split mt_split (pv 0) (pa_cons pe_str pa_nil)))
      (pss_cons (L2R.ps_try_rf (i := 3) (cs := [.ref T.C_BadLiteral, .ref T.C_BothSigns, .ref T.C_TooMany]) (tb := fun W => tAsg (tMakeSS K T.C_Clause (spInitR T.C_Clause T.C_BadLiteral T.C_BothSigns T.C_TooMany) (WE W) (tVar 2)) (gName 4))
        (ts := fun a cls d => fun _ σ H => σ[3]? = some (some (.ref a)) ∧ PySem.W.subIn K cls (.type "BaseException") = some true ∧ tMk1 T.C_BadText "line" _ (tCons (tVar 1) tNil) σ H fun cls d H' => E cls d H') (Wout := fun cls d σ H => E cls d H) rfl rfl sc__clause_in.nd rfl rfl (fun hd => L2H.passesAt_of rfl hd) (L2.takes_of rfl rfl rfl rfl)
        (L2R.htest3 ⟨rfl, by decide, Or.inl T.E_BadLiteral.gC⟩ ⟨rfl, by decide, Or.inl T.E_BothSigns.gC⟩ ⟨rfl, by decide, Or.inl T.E_TooMany.gC⟩)
        (fun W pn xe tk _ => (pss_one (ps_set (i := 4) sc__clause_in.nd rfl (.inl rfl) (L2R.pe_makeSS (mkC T) (okR_Clause_init T) (hr.mono (by decide)) rfl T.g_Clause (fun σ => L2N.passAt tk σ) (pv 2)))))
        (fun a oe cls d pn hz hf tk hot => (pss_one (L2R.ps_raiseHF (i := 3) hz hf rfl List.mem_cons_self rfl rfl (by decide) tk (L2R.pmk1H T.E_BadText rfl fld_line T.o_BadText (show L2H.RoomH 0 _ from ⟨(hr.mono (Nat.zero_le _)).dp, (hr.mono (Nat.zero_le _)).un⟩) (pa_cons (pv 1) pa_nil) rfl (by decide))))))
      (pss_cons (ps_if (pt_cmpR op_ne (pe_callTy (call_strO T.m_Clause_str T.i_Clause_str (ok_Clause_str T) (hr.mono (by decide)) T.b_Clause_str pass0) (by rfl) T.n_str (by decide +kernel) (pa_cons (pv 4) pa_nil)) (pv 0) (nomark _)) (pss_one (L2.ps_raise rfl (L2.takes_of rfl rfl rfl rfl) (L2R.pmk_up (pmk1 T.E_BadText rfl fld_line T.o_BadText hr (pa_cons (pv 1) pa_nil) rfl (by decide))))) pss_nil)
      (pss_one (ps_ret (pv 4))))))), ?_⟩
    have raise : ∀ {me : Expr}, ¬ Good z → ∀ (σ : L2.St) (H1 : Hp), σ[1]? = some (some (.int n)) → Ex H H1 → (∀ tk, Msg me "line" (.int n tk) (scope1 "line")) → tMk1 T.C_BadText "line" me (tCons (tVar 1) tNil) σ H1 fun cls d H' => E cls d H' := fun ng σ H1 h1 e1 hM =>
      ⟨_, h1, .int n, rfl, fun u hu => (by obtain ⟨tk, rfl⟩ := hu; exact hM tk), fun d nd => bad ng _ d (e1.trans (Ex.new nd)) upd_same⟩
    refine q_when (b := decide (z = "0")) (et_is (et_test (ev_op (ev_var rfl) (ev_strE ec_nil ⟨by decide, fun z m => nomatch m⟩) (rv_eq rfl))) ?_) (fun c H1 e1 => ?_) (fun c H1 e1 => ?_)
    · exact decide_eq_decide.mpr ⟨fun e => V.str.inj e, fun e => congrArg V.str e⟩
    · have ez : z = "0" := of_decide_eq_true c
      subst ez
      exact ec_nil H1 (Ex.refl H1) _ fun x H2 e2 cl => good good_zero H2 x (e1.trans e2) (by rw [show litsOf "0" = [] from if_pos rfl]; exact cl)
    · have nz : z ≠ "0" := of_decide_eq_false c
      have hL : litsOf z = Txt.split z sepC := if_neg nz
      have few := parts_few t
      refine q_asgL (el_split (ev_var rfl) t (by decide)) (fun p H2 np e2 hp => ?_)
      refine q_tryMk (L := Txt.split z sepC) (by omega) (fun y m => part_txt t m) (by exact ev_var rfl) hp ⟨fun pre y post eL yes no H3 d e3 hd => ?_, fun lits N od nn f H3 d e3 hd => ?_, fun lits N od f big H3 d e3 hd => ?_, fun lits N od f small H3 x dx q e3 hx hq => ?_⟩
      · have ng : ¬ Good z := fun g => by
          have := g.row.lit y (by rw [hL, eL]; simp)
          rw [no] at this
          cases this
        exact ⟨true, any3 T.E_BadLiteral.te (exm_all T.E_BothSigns T.su_BadLiteral_BothSigns) (exm_all T.E_TooMany T.su_BadLiteral_TooMany), fun _ a na => ⟨rfl, T.E_BadLiteral.exC, raise ng _ _ rfl ((e1.trans e2).trans e3) fun tk => L2R.msg_cic fld_line (by decide) (by decide) n1 n2⟩, fun q => Bool.noConfusion q⟩
      · have ng : ¬ Good z := fun g => by
          have := List.find?_some f
          rw [← hL, g.row.one] at this
          cases this
        exact ⟨true, any3 (exm_all T.E_BadLiteral T.su_BothSigns_BadLiteral) T.E_BothSigns.te (exm_all T.E_TooMany T.su_BothSigns_TooMany), fun _ a na => ⟨rfl, T.E_BothSigns.exC, raise ng _ _ rfl ((e1.trans e2).trans e3) fun tk => L2R.msg_cic fld_line (by decide) (by decide) n1 n2⟩, fun q => Bool.noConfusion q⟩
      · have ng : ¬ Good z := fun g => by
          have l := g.row.due_len (N := N) (by rw [hL]; exact od)
          have fw := g.row.few
          rw [hL] at l fw
          omega
        exact ⟨true, any3 (exm_all T.E_BadLiteral T.su_TooMany_BadLiteral) (exm_all T.E_BothSigns T.su_TooMany_BothSigns) T.E_TooMany.te, fun _ a na => ⟨rfl, T.E_TooMany.exC, raise ng _ _ rfl ((e1.trans e2).trans e3) fun tk => L2R.msg_cic fld_line (by decide) (by decide) n1 n2⟩, fun q => Bool.noConfusion q⟩
      · have ca : ClAt T.C_Clause H3 x (due (Txt.split z sepC) N) := ⟨dx, q, hx, hq⟩
        have dl : ∀ y ∈ due (Txt.split z sepC) N, isLit y = true := fun y hy => lits y ((due_mem od y).mp hy)
        have ok : LitsOk (due (Txt.split z sepC) N) := ⟨Nat.le_trans small (by decide), fun y m => ⟨dl y m, (lit_txt (dl y m)).mono (by decide)⟩⟩
        have gi := good_iff nz od lits f small
        have e123 := (e1.trans e2).trans e3
        refine q_when (b := !decide (V.str (ctext (due (Txt.split z sepC) N)) = V.str z)) (et_test (ev_op (ev_strC (ev_var rfl) ca ok) (ev_var rfl) (rv_ne rfl))) (fun c1 H4 e4 => ?_) (fun c1 H4 e4 => ?_)
        · have ng : ¬ Good z := fun g => by
            rw [decide_eq_true (congrArg V.str (gi.mp g))] at c1
            cases c1
          exact raise ng _ _ rfl (e123.trans e4) fun tk => L2R.msg_cic fld_line (by decide) (by decide) n1 n2
        · have g : Good z := gi.mpr (V.str.inj (of_decide_eq_true (by simpa using c1)))
          refine s_ret (ev_var rfl) fun H5 e5 => good g H5 x ((e123.trans e4).trans e5) ?_
          have o := g.ord N (by rw [hL]; exact od)
          rw [← o, hL]
          exact ca.mono (e4.trans e5)
/-- read_clause(text) -/
def spReadC (C CT : Addr) : Sp := fun vs H Q E => ∃ z : Str, vs = [.str z] ∧ Txt8 99 z ∧ (Good z → ∀ H' x, Ex H H' → ClAt C H' x (litsOf z) → Q (.ref x) H') ∧ (¬ Good z → ∀ H' d, Ex H H' → H' d = some (.xd [("line", .int 1)]) → E (.ref CT) (some d) H')
theorem ok_read_clause (T : Txt P K mg) : FnOk P w K mg base (L2.CX P w) 12 T.f_read_clause T.d_read_clause ["text"] (spReadC T.C_Clause T.C_BadText) := by
  refine T.F_read_clause.okL sc_read_clause (fun vs H Q E h => ?_) (fun cdv A outer s H vs Q E hr h => ?_)
  · obtain ⟨z, rfl, _⟩ := h
    rfl
  · obtain ⟨z, rfl, t, good, bad⟩ := h
    refine ⟨_, (pss_one (ps_ret (pe_call (ok__clause_in T) (hr.mono (by decide)) rfl T.g__clause_in T.F__clause_in.kp T.b__clause_in .nil (L2.passes_call (L2.takes_of rfl rfl rfl rfl) (fun _ _ _ _ h => h)) (pa_cons (pv 0) (pa_cons pe_int pa_nil))))), ?_⟩
    exact ⟨_, rfl, z, 1, rfl, t, by decide, by decide +kernel, good, bad⟩
end
open Evl in
theorem ok__law_is_name (T : Txt P K mg) : FnOk P w K mg base CX0 1 T.f__law_is_name T.d__law_is_name ["_law_text_here"] spIsName := by
  refine T.F__law_is_name.ok sc__law_is_name (fun vs H Q E h => ?_) (fun cdv A outer s H vs Q E hr h => ?_)
  · obtain ⟨z, rfl, _⟩ := h
    rfl
  · obtain ⟨z, rfl, hz, q⟩ := h
    have vz : ∀ (σ : L2.St) (H : Hp), σ[0]? = some (some (V.str z)) → Ev (tVar 0) σ H (.str z) := fun σ H e => ev_var e
    refine ⟨_, (pss_cons (ps_set (i := 1) sc__law_is_name.nd rfl (.inr rfl) pe_str)
      (pss_cons (ps_if (PW.pt (pw_or (pt_cmpR op_eq (pe_callB call_len_str (by rfl) T.n_len PySem.boot_len (pa_cons (pv 0) pa_nil)) pe_int (nomark _)) (pw_or (pt_cmpR op_gt (pe_callB call_len_str (by rfl) T.n_len PySem.boot_len (pa_cons (pv 0) pa_nil)) pe_int (nomark _)) (pw_or1 (pt_cmpR op_notIn_sign (pe_item_str (pv 0) pe_int (fun _ _ => rfl)) (pv 1) (by rfl)))))) (pss_one (ps_ret pe_bl)) pss_nil)
      (pss_one (ps_ret (pe_callB (cr_all rfl) (by rfl) T.n_all (by decide +kernel) (pa_cons (pe_lc (own := [("_law_sign_here", 2)]) (g := gName 2) (by rfl) sc__law_is_name.nd (pi_str (pv 0)) (blkOk_by (own := [("_law_sign_here", 2)]) (N := N__law_is_name) (sc := defScope s__law_is_name) (by decide +kernel)) (fun _ _ _ _ _ => pg_name (i := 2) sc__law_is_name.nd rfl (Or.inl rfl)) (fun _ _ _ _ _ => pts_nil) (fun _ _ _ _ _ => (pe_or (pe_cmpR op_in_sign (pv 2) (pv 1) (by rfl)) (pe_one (pe_cmpR op_in_sign (pv 2) pe_str (by rfl)))))) pa_nil)))))), ?_⟩
    have l : z.cps.toList.length = z.cps.size := Array.length_toList
    refine q_asg ev_c (fun H0 e0 => ?_)
    have hh : ∀ c r, z.cps.toList = c :: r → z.cps[0]? = some c := fun c r hc => by
      rw [← Array.getElem?_toList, hc]
      rfl
    refine q_when (b := decide (z.cps.size = 0) || (decide (8 < z.cps.size) || !(z.cps.toList.head?.any ltr))) (et_or (et_test (ev_is (ev_op (ev_lenS (vz _ _ rfl) (by omega)) ev_c (rv_eq rfl)) ?_)) (fun h0 => et_or (et_test (ev_op (ev_lenS (vz _ _ rfl) (by omega)) ev_c (fun H1 _ Q q => ⟨_, 8, rfl, rfl, ?_⟩))) (fun h8 => et_test ?_))) (fun hb H1 e1 => ?_) (fun hb H1 e1 => ?_)
    · refine congrArg V.bl (decide_eq_decide.mpr ⟨fun x => ?_, fun x => ?_⟩)
      · have y := V.int.inj x
        omega
      · rw [x]
        rfl
    · have e : decide ((8 : Int) < (z.cps.size : Int)) = decide (8 < z.cps.size) := decide_eq_decide.mpr (by omega)
      show Q (.bl (decide ((8 : Int) < (z.cps.size : Int)))) H1
      rw [e]
      exact q H1 (Ex.refl H1)
    · have n0 : z.cps.size ≠ 0 := of_decide_eq_false h0
      obtain ⟨c, r, hc⟩ : ∃ c r, z.cps.toList = c :: r := by
        cases e : z.cps.toList with
        | nil => rw [e] at l; simp at l; omega
        | cons c r => exact ⟨c, r, rfl⟩
      refine ev_is (ev_op (ev_op (vz _ _ rfl) ev_c (rv_itemS (i := 0) (hh c r hc) (by omega))) (ev_var rfl) rv_notInS) ?_
      rw [hc]
      rfl
    · refine s_ret (v := .bl (isName z)) (ev_is ev_c ?_) (fun H2 e2 => q H2 ((e0.trans e1).trans e2))
      unfold isName nameL
      rw [l]
      refine congrArg V.bl ?_
      by_cases h0 : z.cps.size = 0
      · rw [h0]
        rfl
      · by_cases h8 : 8 < z.cps.size
        · rw [decide_eq_false (show ¬ z.cps.size ≤ 8 by omega), Bool.false_and, Bool.and_false]
        · rw [decide_eq_false h0, decide_eq_false h8] at hb
          have hb2 : z.cps.toList.head?.any ltr = false := by simpa using hb
          rw [hb2, Bool.false_and, Bool.and_false, Bool.and_false]
    · rw [Bool.or_eq_false_iff, Bool.or_eq_false_iff] at hb
      obtain ⟨h0, h8, hl⟩ := hb
      have n0 : z.cps.size ≠ 0 := of_decide_eq_false h0
      have n8 : ¬ 8 < z.cps.size := of_decide_eq_false h8
      have hl2 : z.cps.toList.head?.any ltr = true := by simpa using hl
      refine s_ret (v := .bl (isName z)) (ev_is (ev_all (bs := z.cps.toList.map lod) ?_) ?_) (fun H2 e2 => q H2 ((e0.trans e1).trans e2))
      · rw [List.map_map]
        refine el_lcS (f := fun c => V.bl (lod c)) (vz _ _ rfl) (by omega) (fun _ => rfl) (fun c H2 e2 hm => ?_)
        refine ev_is (ev_orV (a := ltr c) (b := dig c) (ev_op (ev_var rfl) (ev_var rfl) rv_inS) (fun _ => ev_op (ev_var rfl) ev_c rv_inS)) ?_
        rw [lod_eq]
      · unfold isName nameL
        rw [l, decide_eq_true (show 1 ≤ z.cps.size by omega), decide_eq_true (show z.cps.size ≤ 8 by omega), hl2, List.all_map]
        rfl
section
open Evl
/-- any(list) -/
theorem ev_anyV {σ : L2.St} {H : Hp} {tl : TE} {bs : List Bool} {b : Bool} (h : EvL tl σ H (bs.map V.bl)) (e : bs.any id = b) : Ev (tCB (rAny K) (tCons tl tNil)) σ H (.bl b) := fun H1 e1 Q q =>
  h H1 e1 _ fun p H2 _ e2 hp => ⟨p, bs, rfl, sq_of hp, by rw [e]; exact q H2 e2⟩
/-- _law_row_of(text) -/
def spRowOf : Sp := fun vs H Q _ => ∃ z : Str, vs = [.str z] ∧ Txt8 99 z ∧ (Good z → RetL ((litsOf z).map V.str) H Q) ∧ (¬ Good z → ∀ H', Ex H H' → Q .non H')
theorem ok__law_row_of (T : Txt P K mg) : FnOk P w K mg base CX0 9 T.f__law_row_of T.d__law_row_of ["_law_text_here"] spRowOf := by
  refine T.F__law_row_of.ok sc__law_row_of (fun vs H Q E h => ?_) (fun cdv A outer s H vs Q E hr h => ?_)
  · obtain ⟨z, rfl, _⟩ := h
    rfl
  · obtain ⟨z, rfl, t, good, bad⟩ := h
    have hu := hr.un
    refine ⟨_, (pss_cons (ps_if (pt_cmpR op_eq (pv 0) pe_str (nomark _)) (pss_one (ps_ret (pe_lst pa_nil))) pss_nil)
      (pss_cons (ps_set (i := 1) sc__law_row_of.nd rfl (.inr rfl) (pe_bm PySem.F.plainAttrs_str PySem.F.slot_str_split PySem.F.type_str_split mt_split (pv 0) (pa_cons pe_str pa_nil)))
      (pss_cons (ps_if (PW.pt (pw_or (pt_cmpR op_gt (pe_callB call_len_seq (by rfl) T.n_len PySem.boot_len (pa_cons (pv 1) pa_nil)) pe_int (nomark _)) (pw_or1 (pt_not (pt_val (pe_callB (cr_all rfl) (by rfl) T.n_all (by decide +kernel) (pa_cons (pe_lc (own := [("_law_literal", 2)]) (g := gName 2) (by rfl) sc__law_row_of.nd (pi_list (pv 1)) (blkOk_by (own := [("_law_literal", 2)]) (N := N__law_row_of) (sc := defScope s__law_row_of) (by decide +kernel)) (fun _ _ _ _ _ => pg_name (i := 2) sc__law_row_of.nd rfl (Or.inl rfl)) (fun _ _ _ _ _ => pts_nil) (fun _ _ _ _ _ => (pe_call (ok__law_is_name T) (hr.mono (by decide)) rfl T.g__law_is_name T.F__law_is_name.kp T.b__law_is_name .nil pass0 (pa_cons (pe_call (ok__law_name T) (hr.mono (by decide)) rfl T.g__law_name T.F__law_name.kp T.b__law_name .nil pass0 (pa_cons (pv 2) pa_nil)) pa_nil)))) pa_nil))))))) (pss_one (ps_ret pe_non)) pss_nil)
      (pss_cons (ps_if (PW.pt (pw_or (pt_cmpR (op_neLL (by exact lt_units (k := 8) hu)) (pv 1) (pe_call (ok__law_ordered T) (hr.mono (by decide)) rfl T.g__law_ordered T.F__law_ordered.kp T.b__law_ordered .nil pass0 (pa_cons (pv 1) pa_nil)) (nomark _)) (pw_or1 (pt_val (pe_callB (cr_any rfl) (by rfl) T.n_any (by decide +kernel) (pa_cons (pe_lc (own := [("_law_literal", 2)]) (g := gName 2) (te := tOp (rIn K false) (tCall (spPure fun z => .str (flip z)) [] E0 (tCons (tVar 2) tNil)) (tVar 1)) (by rfl) sc__law_row_of.nd (pi_list (pv 1)) (blkOk_by (own := [("_law_literal", 2)]) (N := N__law_row_of) (sc := defScope s__law_row_of) (by decide +kernel)) (fun _ _ _ _ _ => pg_name (i := 2) sc__law_row_of.nd rfl (Or.inl rfl)) (fun _ _ _ _ _ => pts_nil) (fun _ _ _ _ _ => (pe_cmpR op_in_seq (pe_call (ok__law_flip T) (hr.mono (by decide)) rfl T.g__law_flip T.F__law_flip.kp T.b__law_flip .nil pass0 (pa_cons (pv 2) pa_nil)) (pv 1) (by rfl)))) pa_nil)))))) (pss_one (ps_ret pe_non)) pss_nil)
      (pss_one (ps_ret (pv 1))))))), ?_⟩
    refine q_when (b := decide (z = "0")) (et_is (et_test (ev_op (ev_var rfl) ev_c (rv_eq rfl))) ?_) (fun c H1 e1 => ?_) (fun c H1 e1 => ?_)
    · exact decide_eq_decide.mpr ⟨fun e => V.str.inj e, fun e => congrArg V.str e⟩
    · have ez : z = "0" := of_decide_eq_true c
      subst ez
      have g := good good_zero
      rw [show litsOf "0" = [] from if_pos rfl] at g
      exact s_retL (el_lst ea_nil (by decide)) fun p H2 np e2 hp => g p H2 (fresh_back e1 np) (e1.trans e2) hp
    · have nz : z ≠ "0" := of_decide_eq_false c
      have hL : litsOf z = Txt.split z sepC := if_neg nz
      have few := parts_few t
      refine q_asgL (el_split (ev_var rfl) t (by decide)) (fun p H2 np e2 hp => ?_)
      have pt := fun y (m : y ∈ Txt.split z sepC) => part_txt t m
      generalize eD : Txt.split z sepC = D at *
      refine q_when (b := decide (6 < D.length) || !(D.all fun y => isName (bare y))) (et_or (et_test (ev_is (ev_op (ev_len (ev_var rfl) (sq_of hp)) ev_c (fun H3 _ Q q => ⟨_, 6, rfl, rfl, q H3 (Ex.refl H3)⟩)) ?_)) (fun _ => et_not (et_B (ev_allV (bs := D.map fun y => isName (bare y)) ?_ ?_)))) (fun c2 H3 e3 => ?_) (fun c2 H3 e3 => ?_)
      · rw [List.length_map]
        exact congrArg V.bl (decide_eq_decide.mpr (by omega))
      · rw [← all_map]
        exact el_fmV (K := K) (fun _ => true) (fun y => V.bl (isName (bare y))) (ev_var rfl) hp (by omega) (fun _ => rfl) (fun _ _ _ _ => et_yes) fun y m _ H4 e4 => ev_call (ea_cons (ev_call (z := .str (bare y)) (ea_cons (ev_var rfl) ea_nil) fun H5 e5 Q q E => ⟨y, rfl, (pt y m).1, q⟩) ea_nil) fun H5 e5 Q q E => ⟨bare y, rfl, Nat.le_trans (bare_len y) (Nat.le_trans (pt y m).1 (by decide)), q⟩
      · rw [List.all_map]
        rfl
      · refine s_ret ev_c fun H4 e4 => bad (fun g => ?_) H4 (((e1.trans e2).trans e3).trans e4)
        have l := g.row.few
        have i := g.row.lit
        rw [hL] at l i
        rw [decide_eq_false (by omega), Bool.false_or, Bool.not_eq_true'] at c2
        rw [show (D.all fun y => isName (bare y)) = true from List.all_eq_true.mpr fun y m => i y m] at c2
        cases c2
      · rw [Bool.or_eq_false_iff, Bool.not_eq_false'] at c2
        have l6 : D.length ≤ 6 := by have := of_decide_eq_false c2.1; omega
        have lit : ∀ y ∈ D, isLit y = true := fun y m => List.all_eq_true.mp c2.2 y m
        obtain ⟨N, od⟩ := ord_any (D.map bare)
        have asD : Asc D := fun y m => (pt y m).2
        have asO : Asc (due D N) := fun y m => (pt y ((due_mem od y).mp m)).2
        have e123 := (e1.trans e2).trans e3
        have hp3 := e3 _ _ hp
        refine q_when (b := !decide (D = due D N) || D.any fun y => decide (flip y ∈ D)) (et_or (et_test (ev_opL (xs := (due D N).map V.str) (ev_var rfl) (el_call (ea_cons (ev_var rfl) ea_nil) ?_) (fun q H4 hq e4 => ?_))) (fun _ => et_B (ev_anyV (bs := D.map fun y => decide (flip y ∈ D)) ?_ ?_))) (fun c3 H4 e4 => ?_) (fun c3 H4 e4 => ?_)
        · exact fun H4 e4 Q q E => ⟨p, D, rfl, e4 _ _ hp3, by omega, fun y m => Nat.le_trans (lit_txt (lit y m)).1 (by decide), fun N' od' => by rw [od'.uniq od fun _ => Iff.rfl]; exact q⟩
        · exact fun H5 e5 Q q2 => ⟨p, q, D, due D N, rfl, rfl, sq_of (e5 _ _ (e4 _ _ hp3)), sq_of (e5 _ _ hq), asD, asO, q2 H5 (Ex.refl H5)⟩
        · rw [← all_map]
          exact el_fmV (K := K) (fun _ => true) (fun y => V.bl (decide (flip y ∈ D))) (ev_var rfl) hp3 (by omega) (fun _ => rfl) (fun _ _ _ _ => et_yes) fun y m _ H4 e4 => ev_is (ev_op (ev_call (z := .str (flip y)) (ea_cons (ev_var rfl) ea_nil) fun H5 e5 Q q E => ⟨y, rfl, (pt y m).1, q⟩) (ev_var rfl) (rv_isL (K := K) (sq_of (e4 _ _ hp3)) rfl (flat_str _))) (congrArg V.bl in_map)
        · rw [List.any_map]
          rfl
        · refine s_ret ev_c fun H5 e5 => bad (fun g => ?_) H5 ((e123.trans e4).trans e5)
          have o := g.ord N (by rw [hL]; exact od)
          have r := g.row
          rw [hL] at o r
          rw [decide_eq_true o.symm, Bool.not_true, Bool.false_or, List.any_eq_true] at c3
          obtain ⟨y, m, f⟩ := c3
          rw [flip_in m (name_dash (lit_bare (lit y m))), r.one] at f
          cases f
        · rw [Bool.or_eq_false_iff, Bool.not_eq_false'] at c3
          have o : D = due D N := of_decide_eq_true c3.1
          have one : N.find? (bothIn D) = none := List.find?_eq_none.mpr fun n hn => by
            obtain ⟨y, m, ey⟩ := List.mem_map.mp ((od.mem n).mp hn)
            have f := List.any_eq_false.mp c3.2 y m
            rw [flip_in m (name_dash (lit_bare (lit y m))), ey] at f
            exact f
          have g : Good z := (good_iff nz (by rw [eD]; exact od) (by rw [eD]; exact lit) (by rw [eD]; exact one) (by rw [eD, ← o]; exact l6)).mpr (by
            rw [eD, ← o]
            have ne := parts_ne z
            rw [eD] at ne
            unfold ctext
            rw [if_neg ne, ← eD]
            exact parts_join z)
          have gd := good g
          rw [hL] at gd
          exact s_ret (ev_var rfl) fun H5 e5 => gd p H5 (fresh_back e1 np) (e1.trans ((e2.trans e3).trans (e4.trans e5))) (e5 _ _ (e4 _ _ hp3))
end
section
open Evl
/-- _law_sign(source) -/
def spSignL : Sp := fun vs H Q _ => ∃ (a l : Addr) (ns : List Int), vs = [.ref a] ∧ SrcL H a l ns ∧ ∀ H' z, Txt8 1 z → SrcL H' a l ns → But a H H' → Q (.str z) H'
theorem ok__law_sign (T : Txt P K mg) : FnOk P w K mg base CX0 2 T.f__law_sign T.d__law_sign ["_law_source_here"] spSignL := by
  refine T.F__law_sign.ok sc__law_sign (fun vs H Q E h => ?_) (fun cdv A outer s H vs Q E hr h => ?_)
  · obtain ⟨a, l, ns, rfl, _⟩ := h
    rfl
  · obtain ⟨a, l, ns, rfl, S, q⟩ := h
    refine ⟨_, (pss_cons (ps_set (i := 1) sc__law_sign.nd rfl (.inl rfl) pe_str)
      (pss_cons (ps_set (i := 1) sc__law_sign.nd rfl (.inl rfl) (pe_op op_add_str (pv 1) pe_str))
      (pss_one (ps_ret (pe_item_str (pv 1) (pe_call (okL__law_take T) (hr.mono (by decide)) rfl T.g__law_take T.F__law_take.kp T.b__law_take .nil pass0 (pa_cons (pv 0) (pa_cons pe_int pa_nil))) (fun _ _ => rfl)))))), ?_⟩
    refine ⟨_, rfl, _, _, rfl, rfl, line_of (by decide), _, rfl, .ref a, rfl, a, 95, l, ns, rfl, S, by decide, by decide, fun H1 r r0 r1 S1 B1 => ?_⟩
    obtain ⟨c, hc, hl, tc⟩ := item_of (z := (" !\"#$&'()*+,-./0123456789:;<=>?@ABCDEFGHIJKLMNOPQRSTUVWXYZ[\\]^_`" ++ "abcdefghijklmnopqrstuvwxyz{|}~\n" : Str)) r0 r1 (by decide) (by decide)
    exact ⟨_, _, c, rfl, rfl, r0, by omega, hl, hc, q _ _ tc S1 B1⟩
/-- _law_changed(source, text, at) -/
def spChg : Sp := fun vs H Q _ => ∃ (a l : Addr) (ns : List Int) (z : Str) (at_ : Int), vs = [.ref a, .str z, .int at_] ∧ SrcL H a l ns ∧ Txt8 90 z ∧ 0 ≤ at_ ∧ ∀ H' y, Txt8 99 y → SrcL H' a l ns → But a H H' → Q (.str y) H'
theorem cut_both {n : Nat} {z : Str} {i j : Int} (t : Txt8 n z) (h0 : 0 ≤ i) (hj : i ≤ j) : Txt8 n (cutS z none (some i) ++ cutS z (some j) none) := by
  have e := app_codes (cutS z none (some i)) (cutS z (some j) none)
  rw [cut_to z h0, cut_fr z (Int.le_trans h0 hj)] at e
  have l1 := len_codes (cutS z none (some i) ++ cutS z (some j) none)
  have l2 := len_codes z
  have t1 := t.1
  have w1 : z.length = z.cps.size := rfl
  have w2 : (cutS z none (some i) ++ cutS z (some j) none).length = (cutS z none (some i) ++ cutS z (some j) none).cps.size := rfl
  refine ⟨?_, fun c hc => ?_⟩
  · rw [e, List.length_append, List.length_take, List.length_drop] at l1
    omega
  · rw [e] at hc
    rcases List.mem_append.mp hc with h | h
    · exact t.2 c (List.mem_of_mem_take h)
    · exact t.2 c (List.mem_of_mem_drop h)
theorem put_between {n m : Nat} {z y : Str} {i j : Int} (t : Txt8 n z) (ty : Txt8 m y) (h0 : 0 ≤ i) (hj : i ≤ j) : Txt8 (n + m) (cutS z none (some i) ++ y ++ cutS z (some j) none) := by
  have b := cut_both t h0 hj
  have e1 := app_codes (cutS z none (some i) ++ y) (cutS z (some j) none)
  have e2 := app_codes (cutS z none (some i)) y
  have e3 := app_codes (cutS z none (some i)) (cutS z (some j) none)
  have l1 := len_codes (cutS z none (some i) ++ y ++ cutS z (some j) none)
  have l2 := len_codes (cutS z none (some i) ++ cutS z (some j) none)
  have l3 := len_codes y
  have b1 := b.1
  have y1 := ty.1
  have w1 : y.length = y.cps.size := rfl
  have w2 : (cutS z none (some i) ++ cutS z (some j) none).length = (cutS z none (some i) ++ cutS z (some j) none).cps.size := rfl
  have w3 : (cutS z none (some i) ++ y ++ cutS z (some j) none).length = (cutS z none (some i) ++ y ++ cutS z (some j) none).cps.size := rfl
  rw [e1, e2, List.length_append, List.length_append] at l1
  rw [e3, List.length_append] at l2
  refine ⟨by omega, fun c hc => ?_⟩
  rw [e1, e2] at hc
  rcases List.mem_append.mp hc with h | h
  · rcases List.mem_append.mp h with h2 | h2
    · exact b.2 c (by rw [e3]; exact List.mem_append_left _ h2)
    · exact ty.2 c h2
  · exact b.2 c (by rw [e3]; exact List.mem_append_right _ h)
theorem cut_le {n : Nat} {z : Str} (t : Txt8 n z) (lo hi : Option Int) : (cutS z lo hi).length ≤ n := (Txt8.cut t lo hi).1
theorem ok__law_changed (T : Txt P K mg) : FnOk P w K mg base CX0 3 T.f__law_changed T.d__law_changed ["_law_source_here", "_law_text_here", "_law_at"] spChg := by
  refine T.F__law_changed.ok sc__law_changed (fun vs H Q E h => ?_) (fun cdv A outer s H vs Q E hr h => ?_)
  · obtain ⟨a, l, ns, z, at_, rfl, _⟩ := h
    rfl
  · obtain ⟨a, l, ns, z, at_, rfl, S, t, h0, q⟩ := h
    refine ⟨_, (pss_cons (ps_set (i := 3) sc__law_changed.nd rfl (.inl rfl) (pe_call (okL__law_take T) (hr.mono (by decide)) rfl T.g__law_take T.F__law_take.kp T.b__law_take .nil pass0 (pa_cons (pv 0) (pa_cons pe_int pa_nil))))
      (pss_cons (ps_if (pt_cmpR op_eq (pv 3) pe_int (nomark _)) (pss_one (ps_ret (pe_op op_add_str (pe_op op_add_str (pe_slice sl_str (pv 1) po_none (po_some (pv 2))) (pe_call (ok__law_sign T) (hr.mono (by decide)) rfl T.g__law_sign T.F__law_sign.kp T.b__law_sign .nil pass0 (pa_cons (pv 0) pa_nil))) (pe_slice sl_str (pv 1) (po_some (pe_op op_add (pv 2) pe_int)) po_none)))) pss_nil)
      (pss_cons (ps_if (pt_cmpR op_eq (pv 3) pe_int (nomark _)) (pss_one (ps_ret (pe_op op_add_str (pe_op op_add_str (pe_slice sl_str (pv 1) po_none (po_some (pv 2))) (pe_call (ok__law_sign T) (hr.mono (by decide)) rfl T.g__law_sign T.F__law_sign.kp T.b__law_sign .nil pass0 (pa_cons (pv 0) pa_nil))) (pe_slice sl_str (pv 1) (po_some (pv 2)) po_none)))) pss_nil)
      (pss_one (ps_ret (pe_op op_add_str (pe_slice sl_str (pv 1) po_none (po_some (pv 2))) (pe_slice sl_str (pv 1) (po_some (pe_op op_add (pv 2) pe_int)) po_none))))))), ?_⟩
    have zl : z.length ≤ 90 := t.1
    have c1 := cut_le t none (some at_)
    have c2 := cut_le t (some at_) none
    have c3 := cut_le t (some (at_ + 1)) none
    refine ⟨.ref a, rfl, a, 3, l, ns, rfl, S, by decide, by decide, fun H1 st s0 s1 S1 B1 => ?_⟩
    refine ⟨_, rfl, rfl, _, rfl, ite2 (fun e => ?_) (fun e => ?_)⟩
    · refine ⟨_, rfl, _, rfl, _, rfl, z, rfl, line_of (by omega), .ref a, rfl, a, l, ns, rfl, S1, fun H2 y ty S2 B2 => ?_⟩
      have yl : y.length ≤ 1 := ty.1
      have l1 : (cutS z none (some at_) ++ y).length ≤ 91 := app_le c1 yl
      exact ⟨_, _, rfl, rfl, line_of (by omega), _, rfl, _, rfl, _, _, rfl, rfl, _, rfl, z, rfl, line_of (by omega), _, _, rfl, rfl, line_of (by omega), q H2 _ ((put_between t ty h0 (by omega)).mono (by decide)) S2 (B1.trans B2)⟩
    refine ⟨_, rfl, rfl, _, rfl, ite2 (fun e => ?_) (fun e => ?_)⟩
    · refine ⟨_, rfl, _, rfl, _, rfl, z, rfl, line_of (by omega), .ref a, rfl, a, l, ns, rfl, S1, fun H2 y ty S2 B2 => ?_⟩
      have yl : y.length ≤ 1 := ty.1
      have l1 : (cutS z none (some at_) ++ y).length ≤ 91 := app_le c1 yl
      exact ⟨_, _, rfl, rfl, line_of (by omega), _, rfl, _, rfl, _, rfl, z, rfl, line_of (by omega), _, _, rfl, rfl, line_of (by omega), q H2 _ ((put_between t ty h0 (by omega)).mono (by decide)) S2 (B1.trans B2)⟩
    · exact ⟨_, rfl, _, rfl, _, rfl, z, rfl, line_of (by omega), _, rfl, _, rfl, _, _, rfl, rfl, _, rfl, z, rfl, line_of (by omega), _, _, rfl, rfl, line_of (by omega), q H1 _ ((cut_both t h0 (by omega)).mono (by decide)) S1 B1⟩
end
section
open Evl
theorem srcl_ex {a l : Addr} {ns : List Int} {H H' : Hp} (S : SrcL H a l ns) (e : Ex H H') : SrcL H' a l ns := by
  obtain ⟨⟨i, x, k, m, hi0, h⟩, hl⟩ := S
  exact ⟨⟨i, x, k, m, hi0, e _ _ h⟩, e _ _ hl⟩
theorem but_ex {a : Addr} {H H1 H2 : Hp} (B : But a H H1) (e : Ex H1 H2) : But a H H2 := fun b o n h => e b o (B b o n h)
theorem rv_addT {H : Hp} {x y : Str} (h : x.length + y.length ≤ 1000) : RV (fun x y H Q => ∃ i j, x = .str i ∧ y = .str j ∧ i.length + j.length ≤ sizeLine ∧ Q (.str (i ++ j)) H) (.str x) (.str y) H (.str (x ++ y)) := fun H1 _ Q q => ⟨x, y, rfl, rfl, line_of h, q H1 (Ex.refl H1)⟩
theorem len_replL {y z : List Nat} (hy : y.length = 3) (hz : z.length ≤ 4) : ∀ (n : Nat) (l : List Nat), l.length ≤ n → 3 * (StrLaws.replL y z l).length ≤ 4 * l.length
  | _, [], _ => by rw [StrLaws.replL_nil]; simp
  | 0, c :: r, h => by simp at h
  | n + 1, c :: r, h => by
    have hl : r.length ≤ n := by simpa using h
    by_cases m : (c :: r).take y.length = y
    · rw [StrLaws.replL_hit (fun e => by rw [e] at hy; simp at hy) m, List.length_append]
      have l3 : 3 ≤ (c :: r).length := by
        have q := congrArg List.length m
        rw [List.length_take] at q
        omega
      have ih := len_replL hy hz n ((c :: r).drop y.length) (by rw [List.length_drop, List.length_cons]; omega)
      rw [List.length_drop] at ih
      omega
    · rw [StrLaws.replL_miss m]
      have ih := len_replL hy hz n r hl
      simp only [List.length_cons]
      omega
theorem mem_replL {y z : List Nat} (hy : y.length = 3) : ∀ (n : Nat) (l : List Nat), l.length ≤ n → ∀ c ∈ StrLaws.replL y z l, c ∈ z ∨ c ∈ l
  | _, [], _, c, h => by rw [StrLaws.replL_nil] at h; cases h
  | 0, d :: r, hl, _, _ => by simp at hl
  | n + 1, d :: r, hl, c, h => by
    have hl2 : r.length ≤ n := by simpa using hl
    by_cases m : (d :: r).take y.length = y
    · rw [StrLaws.replL_hit (fun e => by rw [e] at hy; simp at hy) m] at h
      rcases List.mem_append.mp h with h | h
      · exact .inl h
      · rcases mem_replL hy n ((d :: r).drop y.length) (by rw [List.length_drop, List.length_cons]; omega) c h with h | h
        · exact .inl h
        · exact .inr (List.mem_of_mem_drop h)
    · rw [StrLaws.replL_miss m] at h
      rcases List.mem_cons.mp h with h | h
      · exact .inr (h ▸ List.mem_cons_self)
      · rcases mem_replL hy n r hl2 c h with h | h
        · exact .inl h
        · exact .inr (List.mem_cons_of_mem _ h)
theorem repl_txt {x z : Str} (t : Txt8 72 x) (tz : Txt8 4 z) : Txt8 99 (Txt.replace x " | " z) := by
  have e := StrLaws.replace_list (x := x) (y := " | ") (z := z) (by decide)
  have y3 : (" | " : Str).cps.toList.length = 3 := by decide
  have l := len_replL (z := z.cps.toList) y3 (by have := tz.1; simpa using this) _ x.cps.toList (Nat.le_refl _)
  have l1 := len_codes (Txt.replace x " | " z)
  have l2 := len_codes x
  have w1 : (Txt.replace x " | " z).length = (Txt.replace x " | " z).cps.size := rfl
  have w2 : x.length = x.cps.size := rfl
  have x1 := t.1
  rw [← e] at l
  refine ⟨by omega, fun c hc => ?_⟩
  rw [e] at hc
  rcases mem_replL y3 _ _ (Nat.le_refl _) c hc with h | h
  · exact tz.2 c h
  · exact t.2 c h
/-- _law_spaced(source, text) -/
def spSpc : Sp := fun vs H Q _ => ∃ (a l : Addr) (ns : List Int) (z : Str), vs = [.ref a, .str z] ∧ SrcL H a l ns ∧ Txt8 72 z ∧ ∀ H' y, Txt8 99 y → SrcL H' a l ns → But a H H' → Q (.str y) H'
theorem ok__law_spaced (T : Txt P K mg) : FnOk P w K mg base CX0 2 T.f__law_spaced T.d__law_spaced ["_law_source_here", "_law_text_here"] spSpc := by
  refine T.F__law_spaced.ok sc__law_spaced (fun vs H Q E h => ?_) (fun cdv A outer s H vs Q E hr h => ?_)
  · obtain ⟨a, l, ns, z, rfl, _⟩ := h
    rfl
  · obtain ⟨a, l, ns, z, rfl, S, t, q⟩ := h
    refine ⟨_, (pss_setT (i := 2) sc__law_spaced.nd rfl rfl (pe_call (okL__law_take T) (hr.mono (by decide)) rfl T.g__law_take T.F__law_take.kp T.b__law_take .nil pass0 (pa_cons (pv 0) (pa_cons pe_int pa_nil)))
      (psst_cons (CwR.pst_if (pt_cmpR op_lt (pv 2) pe_int (nomark _)) (PSsT.of (pss_one (ps_ret (pe_ix ix_list (pe_lst (pa_cons (pe_op op_add_str (pv 1) pe_str) (pa_cons (pe_op op_add_str pe_str (pv 1)) (pa_cons pe_str (pa_cons (pe_op op_add_str (pv 1) pe_str) pa_nil))))) (pv 2) (fun _ _ => rfl))))) CwR.psst_nil)
      (psst_cons (CwR.pst_if (pt_cmpR op_lt (pv 2) pe_int (nomark _)) (CwR.psst_one (CwR.pst_ret (pet_repl3 (pv 1) (pe_op op_sub (pv 2) pe_int) (fun _ _ => rfl) (by decide)))) CwR.psst_nil)
      (PSsT.of (pss_one (ps_ret (pe_ix ix_list (pe_lst (pa_cons (pe_op op_add_str pe_str (pv 1)) (pa_cons (pe_op op_add_str (pv 1) pe_str) (pa_cons (pe_op op_add_str (pv 1) pe_str) pa_nil)))) (pe_op op_sub (pv 2) pe_int) (fun _ _ => rfl)))))))), ?_⟩
    have zl : z.length ≤ 72 := t.1
    refine ⟨.ref a, rfl, a, 10, l, ns, rfl, S, by decide, by decide, fun H1 st s0 s1 S1 B1 => ?_⟩
    have fin : ∀ {H2 : Hp} {y : Str}, Ex H1 H2 → Txt8 99 y → Q (.str y) H2 := fun e ty => q _ _ ty (srcl_ex S1 e) (but_ex B1 e)
    have t1 : ∀ {y : Str}, Txt8 4 y → Txt8 99 (z ++ y) := fun ty => (t.app ty).mono (by decide)
    have t2 : ∀ {y : Str}, Txt8 4 y → Txt8 99 (y ++ z) := fun ty => (ty.app t).mono (by decide)
    refine q_when (b := decide (st < 4)) (et_test (ev_op (ev_var rfl) ev_c (fun H3 _ Q q => ⟨_, _, rfl, rfl, q H3 (Ex.refl H3)⟩))) (fun c H2 e2 => ?_) (fun c H2 e2 => ?_)
    · have c := of_decide_eq_true c
      have xs := el_lst (σ := [some (V.ref a), some (V.str z), some (V.int st)]) (H := H2) (ea_cons (ev_op (ev_var (i := 1) rfl) (ev_c (v := V.str " ")) (rv_addT (by show z.length + 1 ≤ _; omega))) (ea_cons (ev_op (ev_c (v := V.str " ")) (ev_var (i := 1) rfl) (rv_addT (by show 1 + z.length ≤ _; omega))) (ea_cons (ev_c (v := V.str "")) (ea_cons (ev_op (ev_var (i := 1) rfl) (ev_c (v := V.str "\n")) (rv_addT (by show z.length + 1 ≤ _; omega))) ea_nil)))) (by show 4 ≤ 100000; decide)
      rcases (show st = 0 ∨ st = 1 ∨ st = 2 ∨ st = 3 by omega) with rfl | rfl | rfl | rfl
      · exact s_ret (ev_opL1 xs (fun H3 e3 => ev_var rfl) (fun p H3 hp e3 => rv_ixL (sq_of hp) (atI_nat (j := 0) rfl))) fun H3 e3 => fin (e2.trans e3) (t1 ⟨by decide, by decide⟩)
      · exact s_ret (ev_opL1 xs (fun H3 e3 => ev_var rfl) (fun p H3 hp e3 => rv_ixL (sq_of hp) (atI_nat (j := 1) rfl))) fun H3 e3 => fin (e2.trans e3) (t2 ⟨by decide, by decide⟩)
      · exact s_ret (ev_opL1 xs (fun H3 e3 => ev_var rfl) (fun p H3 hp e3 => rv_ixL (sq_of hp) (atI_nat (j := 2) rfl))) fun H3 e3 => fin (e2.trans e3) ⟨by decide, by decide⟩
      · exact s_ret (ev_opL1 xs (fun H3 e3 => ev_var rfl) (fun p H3 hp e3 => rv_ixL (sq_of hp) (atI_nat (j := 3) rfl))) fun H3 e3 => fin (e2.trans e3) (t1 ⟨by decide, by decide⟩)
    have c := of_decide_eq_false c
    refine q_when (b := decide (st < 7)) (et_test (ev_op (ev_var rfl) ev_c (fun H3 _ Q q => ⟨_, _, rfl, rfl, q H3 (Ex.refl H3)⟩))) (fun d H3 e3 => ?_) (fun d H3 e3 => ?_)
    · have d := of_decide_eq_true d
      have nx : ∀ (i : Nat) (y : Str), st = 4 + (i : Int) → [("|" : Str), " |  ", " || "][i]? = some y → Txt8 4 y → tRepl3 (tVar 1) (tOp (rI0 fun i j => .int (i - j)) (tVar 2) (tC (.int 4))) " | " "|" " |  " " || " [some (V.ref a), some (V.str z), some (V.int st)] H3 Q := fun i y ei ey ty =>
        ⟨_, rfl, z, rfl, fun p o np => ⟨_, rfl, st, 4, rfl, rfl, i, y, congrArg V.int (by omega), ey, upd_same, by
          have yl : y.length ≤ 4 := ty.1
          have m : (z.length + 1) * y.length ≤ 73 * 4 := Nat.mul_le_mul (by omega) yl
          omega, fin ((e2.trans e3).trans (Ex.new np)) (repl_txt t ty)⟩⟩
      rcases (show st = 4 ∨ st = 5 ∨ st = 6 by omega) with rfl | rfl | rfl
      · exact nx 0 _ rfl rfl ⟨by decide, by decide⟩
      · exact nx 1 _ rfl rfl ⟨by decide, by decide⟩
      · exact nx 2 _ rfl rfl ⟨by decide, by decide⟩
    · have d := of_decide_eq_false d
      have xs := el_lst (σ := [some (V.ref a), some (V.str z), some (V.int st)]) (H := H3) (ea_cons (ev_op (ev_c (v := V.str "0 | ")) (ev_var (i := 1) rfl) (rv_addT (by show 4 + z.length ≤ _; omega))) (ea_cons (ev_op (ev_var (i := 1) rfl) (ev_c (v := V.str " | 0")) (rv_addT (by show z.length + 4 ≤ _; omega))) (ea_cons (ev_op (ev_var (i := 1) rfl) (ev_c (v := V.str " | ")) (rv_addT (by show z.length + 3 ≤ _; omega))) ea_nil))) (by show 3 ≤ 100000; decide)
      have ix : ∀ (H4 : Hp), Ev (tOp (rI0 fun i j => .int (i - j)) (tVar 2) (tC (.int 7))) [some (V.ref a), some (V.str z), some (V.int st)] H4 (.int (st - 7)) := fun H4 => ev_op (ev_var rfl) ev_c rv_I0
      rcases (show st = 7 ∨ st = 8 ∨ st = 9 by omega) with rfl | rfl | rfl
      · exact s_ret (ev_opL1 xs (fun H4 e4 => ix H4) (fun p H4 hp e4 => rv_ixL (sq_of hp) (atI_nat (j := 0) rfl))) fun H4 e4 => fin ((e2.trans e3).trans e4) (t2 ⟨by decide, by decide⟩)
      · exact s_ret (ev_opL1 xs (fun H4 e4 => ix H4) (fun p H4 hp e4 => rv_ixL (sq_of hp) (atI_nat (j := 1) rfl))) fun H4 e4 => fin ((e2.trans e3).trans e4) (t1 ⟨by decide, by decide⟩)
      · exact s_ret (ev_opL1 xs (fun H4 e4 => ix H4) (fun p H4 hp e4 => rv_ixL (sq_of hp) (atI_nat (j := 2) rfl))) fun H4 e4 => fin ((e2.trans e3).trans e4) (t1 ⟨by decide, by decide⟩)
end
/-! ### what is no literal -/
theorem not_lit {z : Str} (hd : dash z = false) (h : isName z = false) : isLit z = false := by unfold isLit; rw [bare_no hd]; exact h
theorem not_name {z : Str} (h : ∀ _ : isName z = true, False) : isName z = false := by
  cases e : isName z with
  | false => rfl
  | true => exact (h e).elim
theorem dash_cons {z : Str} {c : Nat} {r : List Nat} (e : z.cps.toList = c :: r) (h : c ≠ 45) : dash z = false := by
  unfold dash dashL
  rw [e]
  exact beq_eq_false_iff_ne.mpr fun q => h (Option.some.inj q)
theorem name_head {z : Str} {c : Nat} {r : List Nat} (e : z.cps.toList = c :: r) (h : isName z = true) : ltr c = true := by
  obtain ⟨_, _, hd, _⟩ := name_len h
  rw [e] at hd
  exact hd
theorem ltr45 {c : Nat} (h : ltr c = true) : c ≠ 45 := fun e => by rw [e] at h; exact absurd h (by decide)
theorem barred_at {i c : Nat} (h : (" !\"#$&'()*+,./:;<=>?@ABCDEFGHIJKLMNOPQRSTUVWXYZ[\\]^_`{|}~\n" : Str).cps[i]? = some c) : lod c = false ∧ c ≠ 45 := by
  rw [← Array.getElem?_toList] at h
  have q : ∀ c ∈ (" !\"#$&'()*+,./:;<=>?@ABCDEFGHIJKLMNOPQRSTUVWXYZ[\\]^_`{|}~\n" : Str).cps.toList, lod c = false ∧ c ≠ 45 := by decide
  exact q c (List.mem_of_getElem? h)
/-- _law_bad(source, name) -/
def spBadL : Sp := fun vs H Q _ => ∃ (a l : Addr) (ns : List Int) (nm : Str), vs = [.ref a, .str nm] ∧ SrcL H a l ns ∧ isName nm = true ∧ ∀ (H' : Hp) (z : Str), isLit z = false → Txt8 20 z → SrcL H' a l ns → But a H H' → Q (.str z) H'
theorem ok__law_bad (T : Txt P K mg) : FnOk P w K mg base CX0 2 T.f__law_bad T.d__law_bad ["_law_source_here", "_law_name_here"] spBadL := by
  refine T.F__law_bad.ok sc__law_bad (fun vs H Q E h => ?_) (fun cdv A outer s H vs Q E hr h => ?_)
  · obtain ⟨a, l, ns, nm, rfl, _⟩ := h
    rfl
  · obtain ⟨a, l, ns, nm, rfl, S, hn, q⟩ := h
    refine ⟨_, (pss_cons (ps_set (i := 2) sc__law_bad.nd rfl (.inl rfl) pe_str)
      (pss_cons (ps_set (i := 3) sc__law_bad.nd rfl (.inl rfl) (pe_call (okL__law_take T) (hr.mono (by decide)) rfl T.g__law_take T.F__law_take.kp T.b__law_take .nil pass0 (pa_cons (pv 0) (pa_cons pe_int pa_nil))))
      (pss_cons (ps_if (pt_cmpR op_eq (pv 3) pe_int (nomark _)) (pss_one (ps_ret pe_str)) pss_nil)
      (pss_cons (ps_if (pt_cmpR op_eq (pv 3) pe_int (nomark _)) (pss_one (ps_ret pe_str)) pss_nil)
      (pss_cons (ps_if (pt_cmpR op_eq (pv 3) pe_int (nomark _)) (pss_one (ps_ret (pe_op op_add_str pe_str (pv 1)))) pss_nil)
      (pss_cons (ps_if (pt_cmpR op_eq (pv 3) pe_int (nomark _)) (pss_one (ps_ret (pe_op op_add_str (pv 1) (pe_slice sl_str pe_str (po_some (pe_op op_sub (pe_callB call_len_str (by rfl) T.n_len PySem.boot_len (pa_cons (pv 1) pa_nil)) pe_int)) po_none)))) pss_nil)
      (pss_cons (ps_if (pt_cmpR op_eq (pv 3) pe_int (nomark _)) (pss_one (ps_ret (pe_op op_add_str pe_str (pe_slice sl_str (pv 1) (po_some pe_int) po_none)))) pss_nil)
      (pss_cons (ps_set (i := 4) sc__law_bad.nd rfl (.inl rfl) (pe_call (okL__law_take T) (hr.mono (by decide)) rfl T.g__law_take T.F__law_take.kp T.b__law_take .nil pass0 (pa_cons (pv 0) (pa_cons (pe_op op_add pe_int (pe_callB call_len_str (by rfl) T.n_len PySem.boot_len (pa_cons (pv 1) pa_nil))) pa_nil))))
      (pss_one (ps_ret (pe_op op_add_str (pe_op op_add_str (pe_slice sl_str (pv 1) po_none (po_some (pv 4))) (pe_item_str (pv 2) (pe_call (okL__law_take T) (hr.mono (by decide)) rfl T.g__law_take T.F__law_take.kp T.b__law_take .nil pass0 (pa_cons (pv 0) (pa_cons pe_int pa_nil))) (fun _ _ => rfl))) (pe_slice sl_str (pv 1) (po_some (pv 4)) po_none)))))))))))), ?_⟩
    obtain ⟨l1, l8, lh, la⟩ := name_len hn
    have nt := name_txt hn
    have ncode := len_codes nm
    obtain ⟨c0, r0, hc0⟩ : ∃ c r, nm.cps.toList = c :: r := by
      cases e : nm.cps.toList with
      | nil => rw [e] at l1; simp at l1
      | cons c r => exact ⟨c, r, rfl⟩
    have lc0 := name_head hc0 hn
    refine ⟨.ref a, rfl, a, 6, l, ns, rfl, S, by decide, by decide, fun H1 st s0 s1 S1 B1 => ?_⟩
    refine ⟨_, rfl, rfl, _, rfl, ite2 (fun e => ?_) (fun e => ?_)⟩
    · exact q H1 "" (by decide) ⟨by decide, by decide⟩ S1 B1
    refine ⟨_, rfl, rfl, _, rfl, ite2 (fun e => ?_) (fun e => ?_)⟩
    · exact q H1 "-" (by decide) ⟨by decide, by decide⟩ S1 B1
    refine ⟨_, rfl, rfl, _, rfl, ite2 (fun e => ?_) (fun e => ?_)⟩
    · refine ⟨_, rfl, _, _, rfl, rfl, line_of ?_, q H1 _ ?_ ?_ S1 B1⟩
      · have h1 : ("--" : Str).length = 2 := by decide
        omega
      · have e2 : ("--" ++ nm : Str) = "-" ++ ("-" ++ nm) := str_eq (by rw [minus_codes, minus_codes, app_codes]; rfl)
        rw [e2]
        unfold isLit
        rw [bare_minus]
        exact not_name fun h => absurd (name_head (minus_codes nm) h) (by decide)
      · exact ((show Txt8 2 "--" from ⟨by decide, by decide⟩).app nt).mono (by decide)
    refine ⟨_, rfl, rfl, _, rfl, ite2 (fun e => ?_) (fun e => ?_)⟩
    · refine ⟨_, rfl, _, rfl, nm, rfl, line_of (by omega), _, _, rfl, rfl, _, rfl, _, rfl, line_of (by decide), _, _, rfl, rfl, line_of ?_, q H1 _ ?_ ?_ S1 B1⟩
      · have := len_codes (cutS "abcdefgh" (some ((nm.length : Int) - 1)) none); have e3 := congrArg List.length (cut_fr "abcdefgh" (i := (nm.length : Int) - 1) (by omega)); rw [List.length_drop] at e3
        have e8 : ("abcdefgh" : Str).cps.toList.length = 8 := by decide
        omega
      · have e1 := app_codes nm (cutS "abcdefgh" (some ((nm.length : Int) - 1)) none)
        rw [cut_fr "abcdefgh" (by omega), hc0] at e1
        refine not_lit (dash_cons e1 (ltr45 lc0)) (not_name fun h => ?_)
        obtain ⟨_, h8, _, _⟩ := name_len h
        rw [e1, List.cons_append, List.length_cons, List.length_append, List.length_drop] at h8
        have e8 : ("abcdefgh" : Str).cps.toList.length = 8 := by decide
        rw [hc0, List.length_cons] at ncode
        rw [e8] at h8
        rw [hc0, List.length_cons] at l8
        omega
      · exact (nt.app (Txt8.cut (show Txt8 8 "abcdefgh" from ⟨by decide, by decide⟩) _ _)).mono (by decide)
    refine ⟨_, rfl, rfl, _, rfl, ite2 (fun e => ?_) (fun e => ?_)⟩
    · refine ⟨_, rfl, 1, rfl, _, rfl, line_of (by omega), _, _, rfl, rfl, line_of ?_, q H1 _ ?_ ?_ S1 B1⟩
      · have := len_codes (cutS nm (some 1) none); have e3 := congrArg List.length (cut_fr nm (i := 1) (by decide)); rw [List.length_drop] at e3
        have h1 : ("7" : Str).length = 1 := by decide
        omega
      · have e1 : ("7" ++ cutS nm (some 1) none : Str).cps.toList = 55 :: (cutS nm (some 1) none).cps.toList := by rw [app_codes]; rfl
        exact not_lit (dash_cons e1 (by decide)) (not_name fun h => absurd (name_head e1 h) (by decide))
      · exact ((show Txt8 1 "7" from ⟨by decide, by decide⟩).app (Txt8.cut nt _ _)).mono (by decide)
    refine ⟨.ref a, rfl, _, rfl, nm, rfl, line_of (by omega), _, _, rfl, rfl, a, _, l, ns, rfl, S1, by omega, by omega, fun H2 at_ a0 a1 S2 B2 => ?_⟩
    refine ⟨_, rfl, _, rfl, _, rfl, _, rfl, line_of (by omega), _, rfl, .ref a, rfl, a, 58, l, ns, rfl, S2, by decide, by decide, fun H3 k k0 k1 S3 B3 => ?_⟩
    obtain ⟨c, hc, hl, tc⟩ := item_of (z := (" !\"#$&'()*+,./:;<=>?@ABCDEFGHIJKLMNOPQRSTUVWXYZ[\\]^_`{|}~\n" : Str)) k0 k1 (by decide) (by decide)
    obtain ⟨nl, n45⟩ := barred_at hc
    have t1 := Txt8.cut nt none (some at_)
    have t2 := Txt8.cut nt (some at_) none
    have q1 := t1.1
    have q2 := t2.1
    have w1 : (cutS nm none (some at_)).length = (cutS nm none (some at_)).cps.size := rfl
    have w2 : (cutS nm (some at_) none).length = (cutS nm (some at_) none).cps.size := rfl
    have w3 : (cutS nm none (some at_) ++ ⟨#[c]⟩ : Str).length ≤ 9 := (t1.app tc).1
    refine ⟨_, _, c, rfl, rfl, k0, by omega, hl, hc, _, _, rfl, rfl, line_of (by show _ + 1 ≤ _; omega), _, rfl, _, rfl, _, rfl, _, rfl, line_of (by omega), _, _, rfl, rfl, line_of (by omega), q H3 _ ?_ (((t1.app tc).app t2).mono (by decide)) S3 ((B1.trans B2).trans B3)⟩
    have e1 : (cutS nm none (some at_) ++ ⟨#[c]⟩ ++ cutS nm (some at_) none : Str).cps.toList = nm.cps.toList.take at_.toNat ++ [c] ++ nm.cps.toList.drop at_.toNat := by rw [app_codes, app_codes, cut_to nm a0, cut_fr nm a0] <;> rfl
    refine not_lit ?_ (not_name fun h => ?_)
    · cases hk : at_.toNat with
      | zero => rw [hk, List.take_zero] at e1; exact dash_cons e1 n45
      | succ n => rw [hk, hc0] at e1; exact dash_cons (r := List.take n r0 ++ [c] ++ List.drop n r0) e1 (ltr45 lc0)
    · obtain ⟨_, _, _, al⟩ := name_len h
      rw [e1, List.all_append, List.all_append] at al
      simp [nl] at al
section
open Evl
theorem takeV (l : List V) (k : Nat) : l.take (min k l.length) = l.take k := by
  by_cases h : k ≤ l.length
  · rw [Nat.min_eq_left h]
  · rw [Nat.min_eq_right (by omega), List.take_of_length_le (Nat.le_refl _), List.take_of_length_le (by omega)]
theorem dropV (l : List V) (k : Nat) : l.drop (min k l.length) = l.drop k := by
  by_cases h : k ≤ l.length
  · rw [Nat.min_eq_left h]
  · rw [Nat.min_eq_right (by omega), List.drop_of_length_le (Nat.le_refl _), List.drop_of_length_le (by omega)]
theorem cutV_to (l : List V) (k : Nat) : cutV l none (some (k : Int)) = l.take k := by
  unfold cutV
  rw [HT.sIx_nat, HT.sIx_none, List.drop_zero, Nat.sub_zero, takeV]
theorem cutV_fr (l : List V) (k : Nat) : cutV l (some (k : Int)) none = l.drop k := by
  unfold cutV
  rw [HT.sIx_nat, HT.sIx_none, dropV]
  exact List.take_of_length_le (by rw [List.length_drop]; omega)
theorem given_all (n : Nat) (v : Nat → V) : given n (fun _ => true) v = (List.range n).map v := by
  unfold given
  rw [List.filter_eq_self.mpr fun _ _ => rfl]
/-- how much room the texts of a list take when they are joined -/
def wt (L : List Str) : Nat := (L.map fun z => z.length + 3).sum
theorem wt_app (L M : List Str) : wt (L ++ M) = wt L + wt M := by unfold wt; rw [List.map_append, List.sum_append]
theorem wt_le {k : Nat} : ∀ {L : List Str}, (∀ z ∈ L, z.length ≤ k) → wt L ≤ L.length * (k + 3)
  | [], _ => by simp [wt]
  | z :: r, h => by
    have ih := wt_le (L := r) fun y hy => h y (List.mem_cons_of_mem _ hy)
    have hz := h z List.mem_cons_self
    have e : wt (z :: r) = (z.length + 3) + wt r := by simp [wt]
    have e2 : (r.length + 1) * (k + 3) = r.length * (k + 3) + (k + 3) := Nat.succ_mul _ _
    show wt (z :: r) ≤ (r.length + 1) * (k + 3)
    omega
theorem lit_txt9 {z : Str} (h : isLit z = true) : Txt8 9 z := by
  have n : isName (bare z) = true := h
  rcases lit_form (z := z) with e | e
  · rw [e]; exact (name_txt n).mono (by decide)
  · rw [e]; exact ((show Txt8 1 "-" from ⟨by decide, by decide⟩).app (name_txt n)).mono (by decide)
structure Cw (L : List Str) : Prop where
  few : L.length ≤ 8
  w : wt L ≤ 96
  txt : ∀ z ∈ L, Txt8 20 z
theorem cw_lits {L : List Str} (few : L.length ≤ 8) (lit : ∀ z ∈ L, isLit z = true) : Cw L :=
  ⟨few, Nat.le_trans (wt_le (k := 9) fun z m => (lit_txt9 (lit z m)).1) (by omega), fun z m => (lit_txt9 (lit z m)).mono (by decide)⟩
theorem cw_put {L : List Str} {y : Str} {i : Nat} (few : L.length ≤ 6) (lit : ∀ z ∈ L, isLit z = true) (ty : Txt8 20 y) : Cw (L.take i ++ [y] ++ L.drop i) := by
  have l := List.take_append_drop i L
  have ll := congrArg List.length l
  rw [List.length_append] at ll
  have hw : wt L ≤ L.length * 12 := wt_le (k := 9) fun z m => (lit_txt9 (lit z m)).1
  have w := congrArg wt l
  rw [wt_app] at w
  refine ⟨?_, ?_, fun z m => ?_⟩
  · rw [List.length_append, List.length_append]
    simp only [List.length_cons, List.length_nil]
    omega
  · rw [wt_app, wt_app]
    have e : wt [y] = y.length + 3 := by simp [wt]
    have := ty.1
    have w1 : y.length = y.cps.size := rfl
    omega
  · rcases List.mem_append.mp m with m | m
    · rcases List.mem_append.mp m with m | m
      · exact (lit_txt9 (lit z (List.mem_of_mem_take m))).mono (by decide)
      · rw [List.mem_singleton.mp m]; exact ty
    · exact (lit_txt9 (lit z (List.mem_of_mem_drop m))).mono (by decide)
/-- a list of literals, in order, each once: no longer than it was -/
theorem due_few {M N : List Str} (od : Ord (M.map bare) N) (lit : ∀ z ∈ M, isLit z = true) : (due M N).length ≤ M.length :=
  perm_len_le (due_nodup od.nd fun n hn => by
    obtain ⟨y, hy, ey⟩ := List.mem_map.mp ((od.mem n).mp hn)
    rw [← ey]
    exact name_dash (lit_bare (lit y hy))) fun x hx => (due_mem od x).mp hx
theorem mem_joinL {S : List Nat} {c : Nat} : ∀ {ps : List (List Nat)}, c ∈ TL.joinL S ps → c ∈ S ∨ ∃ p ∈ ps, c ∈ p
  | [p], h => .inr ⟨p, List.mem_cons_self, h⟩
  | p :: q :: r, h => by
    have h2 : c ∈ p ++ (S ++ TL.joinL S (q :: r)) := h
    rcases List.mem_append.mp h2 with h | h
    · exact .inr ⟨p, List.mem_cons_self, h⟩
    · rcases List.mem_append.mp h with h | h
      · exact .inl h
      · rcases mem_joinL h with h | ⟨p2, m, hc⟩
        · exact .inl h
        · exact .inr ⟨p2, List.mem_cons_of_mem _ m, hc⟩
theorem join_txt {L : List Str} {n : Nat} (hw : wt L ≤ n) (asc : ∀ z ∈ L, ∀ c ∈ z.cps.toList, c < 128) : Txt8 n (Txt.join " | " L) := by
  have e : Txt.join " | " L = Str.join " | " L := TL.join_eq _ _
  refine ⟨?_, fun c hc => ?_⟩
  · have l := StrLaws.join_length_le " | " L
    have l3 : (" | " : Str).length = 3 := by decide
    have w : wt L = (L.map (·.length)).sum + L.length * 3 := by
      clear hw asc e l
      induction L with
      | nil => rfl
      | cons z r ih =>
        have e : wt (z :: r) = (z.length + 3) + wt r := by simp [wt]
        rw [e, ih]
        simp only [List.map_cons, List.sum_cons, List.length_cons]
        omega
    have w2 : (Str.join " | " L).length = (Str.join " | " L).cps.size := rfl
    rw [e]
    rw [l3] at l
    omega
  · rw [e] at hc
    have hc2 : c ∈ TL.joinL (TL.tl " | ") (L.map TL.tl) := by rw [← TL.tl_join]; exact hc
    rcases mem_joinL hc2 with h | ⟨p, m, h⟩
    · have q : ∀ c ∈ TL.tl " | ", c < 128 := by decide
      exact q c h
    · obtain ⟨z, hz, rfl⟩ := List.mem_map.mp m
      exact asc z hz c h
theorem but_set {a b : Addr} {H H1 : Hp} {o : HO} (B : But a H H1) (hb : H b = none) : But a H (upd H1 b o) := fun c u n h => by
  rw [upd_ne (fun e => by rw [e, hb] at h; cases h)]
  exact B c u n h
theorem but_fr {a l : Addr} {ns : List Int} {H H' : Hp} {x : Addr} (B : But a H H') (S : SrcL H' a l ns) (h : H' x = none) : H x = none := by
  cases hx : H x with
  | none => rfl
  | some o =>
    have n := (srl_off S h).1
    rw [B x o n hx] at h; cases h
/-- what is known of the row behind the first steps -/
def JT (k : Int) (H : Hp) (a l nb : Addr) (ns : List Int) (nms : List Str) (st : Int) (m : Nat) (σ : L2.St) (H' : Hp) : Prop := ∃ (b : Addr) (L : List Str) (v5 v6 : Option V), σ = [some (.ref a), some (.ref nb), some (.ref b), some (.int st), some (.int (m : Int)), v5, v6] ∧ SrcL H' a l ns ∧ H' nb = some (.lst (nms.map V.str)) ∧ H' b = some (.lst (L.map V.str)) ∧ H b = none ∧ But a H H' ∧ Cw L ∧ (k < st → L.length ≤ 6 ∧ (∀ z ∈ L, isLit z = true) ∧ m ≤ L.length)
theorem JT.up {k k' : Int} {H : Hp} {a l nb : Addr} {ns : List Int} {nms : List Str} {st : Int} {m : Nat} {σ : L2.St} {H' H2 : Hp} (j : JT k H a l nb ns nms st m σ H') (h : k ≤ k') (e : Ex H' H2) : JT k' H a l nb ns nms st m σ H2 := by
  obtain ⟨b, L, v5, v6, rfl, S, hn, hb, fb, B, cw, c⟩ := j
  exact ⟨b, L, v5, v6, rfl, srl_ex S e, e _ _ hn, e _ _ hb, fb, but_ex B e, cw, fun q => c (by omega)⟩
/-- _law_ordered of a new list -/
theorem el_ordN {te : TE} {σ : L2.St} {H : Hp} {M N : List Str} {E : XK} (h : EvL te σ H (M.map V.str)) (few : M.length ≤ 40) (short : ∀ z ∈ M, z.cps.size ≤ 50) (od : Ord (M.map bare) N) : EvL (tCall spOrdered [] E (tCons te tNil)) σ H ((due M N).map V.str) := fun H1 e1 Q q =>
  h H1 e1 _ fun p H2 np e2 hp => ⟨p, M, rfl, hp, few, short, fun N' od' p2 H3 np2 e3 h3 => q p2 H3 (fresh_back e2 np2) (e2.trans e3) (by rw [od.uniq od' fun _ => Iff.rfl]; exact h3)⟩
theorem s_call1 {sp : Sp} {te : TE} {σ : L2.St} {H : Hp} {D : Ends} {i : Nat} {E : XK} (h : te σ H fun v H1 => sp ([v] ++ []) H1 (fun u H2 => D.nx (σ.set i (some u)) H2) E) : tAsg (tCall sp [] E (tCons te tNil)) (gName i) D σ H := h
/-- a comprehension over range(5 + _law_take(source, 4)) -/
theorem lc_take {g : TG} {tt : TT} {te : TE} {vs : List Nat} {σ : L2.St} {H : Hp} {Q : VK} {a l : Addr} {ns : List Int} {E : XK} (h0 : σ[0]? = some (some (.ref a))) (S : SrcL H a l ns)
    (k : ∀ H1 r, 0 ≤ r → r < 4 → SrcL H1 a l ns → But a H H1 → tLc (iRng1 (tCons (tC (.int (5 + r))) tNil)) g tt te vs σ H1 Q) : tLc (iRng1 (tCons (tOp (rI0 fun i j => .int (i + j)) (tC (.int 5)) (tCall spTakeL [] E (tCons (tVar 0) (tCons (tC (.int 4)) tNil)))) tNil)) g tt te vs σ H Q :=
  ⟨.ref a, h0, a, 4, l, ns, rfl, S, by decide, by decide, fun H1 r r0 r1 S1 B1 => ⟨5, r, rfl, rfl, k H1 r r0 r1 S1 B1⟩⟩
def sgT (m i : Nat) : Str := if (i + m) % 2 = 0 then "" else "-"
theorem sgT_len (m i : Nat) : (sgT m i).length ≤ 1 := by
  unfold sgT
  split <;> decide
theorem sgT_at (m i : Nat) : atI [V.str "", V.str "-"] (Int.fmod ((i : Int) + (m : Int)) 2) = some (.str (sgT m i)) := by
  have e : Int.fmod ((i : Int) + (m : Int)) 2 = (((i + m) % 2 : Nat) : Int) := by
    rw [Int.fmod_eq_emod_of_nonneg _ (by decide)]
    omega
  rw [e]
  refine atI_nat ?_
  unfold sgT
  rcases Nat.mod_two_eq_zero_or_one (i + m) with h | h <;> rw [h] <;> rfl
theorem sgT_lit (m i : Nat) {z : Str} (h : isName z = true) : isLit (sgT m i ++ z) = true := by
  unfold sgT
  split
  · rw [show ("" ++ z : Str) = z from str_eq (by rw [app_codes]; rfl)]
    exact name_lit h
  · exact minus_lit h
abbrev TEK (K : PySem.W.Frag) : TE := (tOp (fun x y H Q => ∃ i j, x = .str i ∧ y = .str j ∧ i.length + j.length ≤ sizeLine ∧ Q (.str (i ++ j)) H) (tOp (rIxL K) (tLst (tCons (tC (.str "")) (tCons (tC (.str "-")) tNil))) (tOp (rI (fun _ j => j ≠ 0) fun i j => .int (i.fmod j)) (tCB (fun xs H Q => (∃ i, xs = [.int i] ∧ Q (.int i) H) ∨ ∃ k, xs = [.bl k] ∧ Q (.int (if k then 1 else 0)) H) (tCons (tOp (rI0 fun i j => .int (i + j)) (tVar 6) (tVar 4)) tNil)) (tC (.int 2)))) (tOp (rIxL K) (tVar 1) (tVar 6)))
/-- _law_text(source, names) -/
def spText : Sp := fun vs H Q _ => ∃ (a l nb : Addr) (ns : List Int) (nms : List Str), vs = [.ref a, .ref nb] ∧ SrcL H a l ns ∧ H nb = some (.lst (nms.map V.str)) ∧ nb ≠ a ∧ nms.length = 8 ∧ (∀ z ∈ nms, isName z = true) ∧ ∀ H' z, Txt8 99 z → SrcL H' a l ns → But a H H' → Q (.str z) H'
theorem ok__law_text (T : Txt P K mg) : FnOk P w K mg base CX0 11 T.f__law_text T.d__law_text ["_law_source_here", "_law_names_here"] spText := by
  refine T.F__law_text.ok sc__law_text (fun vs H Q E h => ?_) (fun cdv A outer s H vs Q E hr h => ?_)
  · obtain ⟨a, l, nb, ns, nms, rfl, _⟩ := h
    rfl
  · obtain ⟨a, l, nb, ns, nms, rfl, S, hn, nba, n8, nm, q⟩ := h
    refine ⟨_, (pss_cons (ps_set (i := 2) sc__law_text.nd rfl (.inl rfl) (pe_call (ok__law_ordered T) (hr.mono (by decide)) rfl T.g__law_ordered T.F__law_ordered.kp T.b__law_ordered .nil pass0 (pa_cons (pe_call (ok__law_row T) (hr.mono (by decide)) rfl T.g__law_row T.F__law_row.kp T.b__law_row .nil pass0 (pa_cons (pv 0) (pa_cons (pv 1) (pa_cons pe_int pa_nil)))) pa_nil)))
      (pss_cons (ps_set (i := 3) sc__law_text.nd rfl (.inl rfl) (pe_call (okL__law_take T) (hr.mono (by decide)) rfl T.g__law_take T.F__law_take.kp T.b__law_take .nil pass0 (pa_cons (pv 0) (pa_cons pe_int pa_nil))))
      (pss_cons (ps_set (i := 4) sc__law_text.nd rfl (.inr rfl) (pe_call (okL__law_take T) (hr.mono (by decide)) rfl T.g__law_take T.F__law_take.kp T.b__law_take .nil pass0 (pa_cons (pv 0) (pa_cons (pe_op op_add (pe_callB call_len_seq (by rfl) T.n_len PySem.boot_len (pa_cons (pv 2) pa_nil)) pe_int) pa_nil))))
      (Evl.pss_cut (ps_if (pt_cmpR op_eq (pv 3) pe_int (nomark _)) (pss_one (ps_set (i := 2) sc__law_text.nd rfl (.inl rfl) (pe_op op_cat (pe_slice sl_list (pv 2) (po_some (pv 4)) po_none) (pe_slice sl_list (pv 2) po_none (po_some (pv 4)))))) pss_nil)
      (Evl.pss_cut (ps_if (PW.pt (pw_and (pt_cmpR op_eq (pv 3) pe_int (nomark _)) (pw_and1 (pt_cmpR op_lt (pv 4) (pe_callB call_len_seq (by rfl) T.n_len PySem.boot_len (pa_cons (pv 2) pa_nil)) (nomark _))))) (pss_one (ps_expr (pe_bm PySem.F.plainAttrs_list PySem.F.slot_list_insert PySem.F.type_list_insert mt_insert (pv 2) (pa_cons (pv 4) (pa_cons (pe_ix ix_list (pv 2) (pv 4) (fun _ _ => rfl)) pa_nil))))) pss_nil)
      (Evl.pss_cut (ps_if (PW.pt (pw_and (pt_cmpR op_eq (pv 3) pe_int (nomark _)) (pw_and1 (pt_cmpR op_lt (pv 4) (pe_callB call_len_seq (by rfl) T.n_len PySem.boot_len (pa_cons (pv 2) pa_nil)) (nomark _))))) (pss_one (ps_set (i := 2) sc__law_text.nd rfl (.inl rfl) (pe_call (ok__law_ordered T) (hr.mono (by decide)) rfl T.g__law_ordered T.F__law_ordered.kp T.b__law_ordered .nil pass0 (pa_cons (pe_op op_cat (pv 2) (pe_lst (pa_cons (pe_call (ok__law_flip T) (hr.mono (by decide)) rfl T.g__law_flip T.F__law_flip.kp T.b__law_flip .nil pass0 (pa_cons (pe_ix ix_list (pv 2) (pv 4) (fun _ _ => rfl)) pa_nil)) pa_nil))) pa_nil)))) pss_nil)
      (Evl.pss_cut (ps_if (pt_cmpR op_eq (pv 3) pe_int (nomark _)) (pss_one (ps_set (i := 2) sc__law_text.nd rfl (.inl rfl) (pe_call (ok__law_ordered T) (hr.mono (by decide)) rfl T.g__law_ordered T.F__law_ordered.kp T.b__law_ordered .nil pass0 (pa_cons (pe_lc (own := [("_law_k", 6)]) (g := gName 6) (te := TEK K) (by rfl) sc__law_text.nd (pi_range1 rfl T.n_range (pa_cons (pe_op op_add pe_int (pe_call (okL__law_take T) (hr.mono (by decide)) rfl T.g__law_take T.F__law_take.kp T.b__law_take .nil pass0 (pa_cons (pv 0) (pa_cons pe_int pa_nil)))) pa_nil)) (blkOk_by (own := [("_law_k", 6)]) (N := N__law_text) (sc := defScope s__law_text) (by decide +kernel)) (fun _ _ _ _ _ => pg_name (i := 6) sc__law_text.nd rfl (Or.inl rfl)) (fun _ _ _ _ _ => pts_nil) (fun _ _ _ _ _ => (pe_op op_add_str (pe_ix ix_list (pe_lst (pa_cons pe_str (pa_cons pe_str pa_nil))) (pe_op op_modN (pe_callTy call_int1 (by rfl) T.n_int (by decide +kernel) (pa_cons (pe_op op_add (pv 6) (pv 4)) pa_nil)) pe_int) (fun _ _ => rfl)) (pe_ix ix_list (pv 1) (pv 6) (fun _ _ => rfl))))) pa_nil)))) pss_nil)
      (Evl.pss_cut (ps_if (pt_cmpR op_eq (pv 3) pe_int (nomark _)) (pss_one (ps_expr (pe_bm PySem.F.plainAttrs_list PySem.F.slot_list_insert PySem.F.type_list_insert mt_insert (pv 2) (pa_cons (pv 4) (pa_cons (pe_call (ok__law_bad T) (hr.mono (by decide)) rfl T.g__law_bad T.F__law_bad.kp T.b__law_bad .nil pass0 (pa_cons (pv 0) (pa_cons (pe_ix ix_list (pv 1) pe_int (fun _ _ => rfl)) pa_nil))) pa_nil))))) pss_nil)
      (pss_cons (ps_set (i := 5) sc__law_text.nd rfl (.inl rfl) (pe_bm PySem.F.plainAttrs_str PySem.F.slot_str_join PySem.F.type_str_join mt_join pe_str (pa_cons (pv 2) pa_nil)))
      (pss_cons (ps_if (pt_cmpR op_eq (pe_callB call_len_seq (by rfl) T.n_len PySem.boot_len (pa_cons (pv 2) pa_nil)) pe_int (nomark _)) (pss_one (ps_set (i := 5) sc__law_text.nd rfl (.inl rfl) pe_str)) pss_nil)
      (pss_cons (ps_if (pt_cmpR op_eq (pv 3) pe_int (nomark _)) (pss_one (ps_ret (pe_call (ok__law_spaced T) (hr.mono (by decide)) rfl T.g__law_spaced T.F__law_spaced.kp T.b__law_spaced .nil pass0 (pa_cons (pv 0) (pa_cons (pv 5) pa_nil))))) pss_nil)
      (pss_cons (ps_if (PW.pt (pw_and (pt_cmpR op_gt (pv 3) pe_int (nomark _)) (pw_and1 (pt_cmpR op_lt (pv 3) pe_int (nomark _))))) (pss_one (ps_ret (pe_call (ok__law_changed T) (hr.mono (by decide)) rfl T.g__law_changed T.F__law_changed.kp T.b__law_changed .nil pass0 (pa_cons (pv 0) (pa_cons (pv 5) (pa_cons (pe_call (okL__law_take T) (hr.mono (by decide)) rfl T.g__law_take T.F__law_take.kp T.b__law_take .nil pass0 (pa_cons (pv 0) (pa_cons (pe_op op_add (pe_callB call_len_str (by rfl) T.n_len PySem.boot_len (pa_cons (pv 5) pa_nil)) pe_int) pa_nil))) pa_nil)))))) pss_nil)
      (pss_one (ps_ret (pv 5))))))))))))))), ?_⟩
    refine ⟨.ref a, rfl, .ref nb, rfl, a, l, ns, nb, nms, 6, rfl, by decide, S, hn, nba, by omega, by omega, nm, fun H1 p0 L0 np0 S1 B1 hp0 row ins => ?_⟩
    refine ⟨p0, L0, rfl, hp0, by have := row.few; omega, fun z m => Nat.le_trans (lit_txt (row.lit z m)).1 (by decide), fun N0 od0 b0 H2 nb0 e2 hb0 => ?_⟩
    have few0 : (due L0 N0).length ≤ 6 := Nat.le_trans (due_few od0 row.lit) row.few
    have lit0 : ∀ z ∈ due L0 N0, isLit z = true := fun z m => row.lit z ((due_mem od0 z).mp m)
    generalize due L0 N0 = D0 at hb0 few0 lit0
    have S2 := srl_ex S1 e2
    have B2 := but_ex B1 e2
    have fb0 : H b0 = none := but_fr B1 S1 nb0
    refine ⟨.ref a, rfl, a, 10, l, ns, rfl, S2, by decide, by decide, fun H3 st s0 s1 S3 B3 => ?_⟩
    have ba0 : b0 ≠ a := (srl_off S fb0).1
    have hb3 := B3 b0 _ ba0 hb0
    refine ⟨.ref a, rfl, .ref b0, rfl, b0, _, rfl, .inl (SqL.of hb3), _, _, rfl, rfl, a, _, l, ns, rfl, S3, (by rw [List.length_map]; omega), (by rw [List.length_map]; omega), fun H4 at_ a0 a1 S4 B4 => ?_⟩
    rw [List.length_map] at a1
    obtain ⟨m, rfl⟩ : ∃ m : Nat, at_ = (m : Int) := ⟨at_.toNat, by omega⟩
    have B04 := (B2.trans B3).trans B4
    have j0 : JT 0 H a l nb ns nms st m [some (.ref a), some (.ref nb), some (.ref b0), some (.int st), some (.int (m : Int)), none, none] H4 :=
      ⟨b0, D0, none, none, rfl, S4, B04 nb _ nba hn, B4 b0 _ ba0 hb3, fb0, B04, cw_lits (by omega) lit0, fun _ => ⟨few0, lit0, by omega⟩⟩
    have tst : ∀ (σ : L2.St) (H' : Hp) (k : Int), σ[3]? = some (some (.int st)) → EvT (tTest (tOp rEq (tVar 3) (tC (.int k)))) σ H' (decide (st = k)) := fun σ H' k h => et_is (et_test (ev_op (ev_var h) ev_c (rv_eq rfl))) (decide_eq_decide.mpr ⟨fun e => V.int.inj e, fun e => congrArg V.int e⟩)
    -- 1: turned about
    refine q_cut (M := JT 1 H a l nb ns nms st m) ?_ (fun σ1 H5 j1 => ?_)
    · have hb5 := B4 b0 _ ba0 hb3
      have hn5 := B04 nb _ nba hn
      refine s_when (tst _ _ 1 rfl) (fun c H6 e6 => ?_) (fun c H6 e6 => j0.up (by decide) e6)
      have cat := el_cat (els_new (el_sl (K := K) (te := tVar 2) (tl := tPart (tVar 4)) (th := tNoPart) (σ := [some (.ref a), some (.ref nb), some (.ref b0), some (.int st), some (.int (m : Int)), none, none]) (ev_var rfl) (eo_some (ev_var rfl)) eo_none (sq_of (e6 _ _ hb5)))) (els_new (el_sl (K := K) (te := tVar 2) (tl := tNoPart) (th := tPart (tVar 4)) (ev_var rfl) eo_none (eo_some (ev_var rfl)) (sq_of (e6 _ _ hb5)))) (by rw [cutV_fr, cutV_to, List.length_drop, List.length_take, List.length_map]; omega)
      rw [cutV_fr, cutV_to, ← List.map_drop, ← List.map_take, ← List.map_append] at cat
      refine s_asgL cat (fun p H7 np e7 hp => ?_)
      have e57 := e6.trans e7
      refine ⟨p, D0.drop m ++ D0.take m, none, none, rfl, srl_ex S4 e57, e57 _ _ hn5, hp, but_fr B04 S4 (fresh_back e6 np), but_ex B04 e57, cw_lits ?_ (fun z mz => ?_), fun h => absurd h (by have := of_decide_eq_true c; omega)⟩
      · rw [List.length_append, List.length_drop, List.length_take]
        omega
      · rcases List.mem_append.mp mz with h | h
        · exact lit0 z (List.mem_of_mem_drop h)
        · exact lit0 z (List.mem_of_mem_take h)
    obtain ⟨b, L, v5, v6, rfl, S5, hn5, hb5, fb, B5, cw, cond⟩ := id j1
    have lenb : ∀ {H' : Hp}, Ex H5 H' → Ev (tCB (fun xs H Q => ∃ p ys, xs = [.ref p] ∧ (SqL K H p ys ∨ SqT K H p ys) ∧ Q (.int (ys.length : Int)) H) (tCons (tVar 2) tNil)) [some (.ref a), some (.ref nb), some (.ref b), some (.int st), some (.int (m : Int)), v5, v6] H' (.int (L.length : Int)) := fun e => ev_is (ev_len (ev_var rfl) (sq_of (e _ _ hb5))) (by rw [List.length_map])
    -- 2: a literal twice
    refine q_cut (M := JT 2 H a l nb ns nms st m) ?_ (fun σ2 H6 j2 => ?_)
    · refine s_when (b := decide (st = 2) && decide (m < L.length)) (et_and (tst _ _ 2 rfl) (fun _ => et_test (ev_op (ev_var rfl) (lenb (Ex.refl _)) (fun H7 _ Q q => ⟨_, _, rfl, rfl, ?_⟩)))) (fun c H6 e6 => ?_) (fun c H6 e6 => j1.up (by decide) e6)
      · show Q (.bl (decide ((m : Int) < (L.length : Int)))) H7
        rw [show decide ((m : Int) < (L.length : Int)) = decide (m < L.length) from decide_eq_decide.mpr (by omega)]
        exact q H7 (Ex.refl H7)
      rw [Bool.and_eq_true] at c
      have c1 := of_decide_eq_true c.1
      have c2 := of_decide_eq_true c.2
      obtain ⟨f6, li, ml⟩ := cond (by omega)
      have hb6 := e6 _ _ hb5
      have hy : (L.map V.str)[m]? = some (.str L[m]) := by rw [List.getElem?_map, List.getElem?_eq_getElem c2] <;> rfl
      have ly := li _ (List.getElem_mem c2)
      generalize L[m] = y at hy ly
      refine ⟨_, rfl, .inl ⟨rfl, _, sq_of hb6⟩, _, rfl, _, rfl, _, rfl, b, _, (m : Int), _, rfl, rfl, sq_of hb6, atI_nat hy, b, _, (m : Int), _, rfl, rfl, hb6, sz_lt (by rw [List.length_map]; omega), by omega, by omega, ?_⟩
      have bo := srl_off S fb
      refine ⟨b, L.take m ++ [y] ++ L.drop m, v5, v6, rfl, srl_put (srl_ex S5 e6) bo.1 bo.2, ?_, ?_, fb, but_set (but_ex B5 e6) fb, cw_put f6 li ((lit_txt9 ly).mono (by decide)), fun h => absurd h (by omega)⟩
      · rw [upd_ne (fun e => by rw [e, fb] at hn; cases hn)]
        exact e6 _ _ hn5
      · rw [upd_same, List.map_append, List.map_append, List.map_take, List.map_drop]
        rfl
    clear lenb hn5 hb5 S5 B5 cw cond fb j1
    obtain ⟨b, L, v5, v6, rfl, S5, hn5, hb5, fb, B5, cw, cond⟩ := id j2
    have lenb : ∀ {H' : Hp}, Ex H6 H' → Ev (tCB (fun xs H Q => ∃ p ys, xs = [.ref p] ∧ (SqL K H p ys ∨ SqT K H p ys) ∧ Q (.int (ys.length : Int)) H) (tCons (tVar 2) tNil)) [some (.ref a), some (.ref nb), some (.ref b), some (.int st), some (.int (m : Int)), v5, v6] H' (.int (L.length : Int)) := fun e => ev_is (ev_len (ev_var rfl) (sq_of (e _ _ hb5))) (by rw [List.length_map])
    -- 3: a name in both signs
    refine q_cut (M := JT 3 H a l nb ns nms st m) ?_ (fun σ3 H7 j3 => ?_)
    · refine s_when (b := decide (st = 3) && decide (m < L.length)) (et_and (tst _ _ 3 rfl) (fun _ => et_test (ev_op (ev_var rfl) (lenb (Ex.refl _)) (fun H7 _ Q q => ⟨_, _, rfl, rfl, ?_⟩)))) (fun c H7 e7 => ?_) (fun c H7 e7 => j2.up (by decide) e7)
      · show Q (.bl (decide ((m : Int) < (L.length : Int)))) H7
        rw [show decide ((m : Int) < (L.length : Int)) = decide (m < L.length) from decide_eq_decide.mpr (by omega)]
        exact q H7 (Ex.refl H7)
      rw [Bool.and_eq_true] at c
      have c1 := of_decide_eq_true c.1
      have c2 := of_decide_eq_true c.2
      obtain ⟨f6, li, ml⟩ := cond (by omega)
      have hb7 := e7 _ _ hb5
      have hy : (L.map V.str)[m]? = some (.str L[m]) := by rw [List.getElem?_map, List.getElem?_eq_getElem c2] <;> rfl
      have ly := li _ (List.getElem_mem c2)
      generalize L[m] = y at hy ly
      have fl : isLit (flip y) = true := by
        unfold flip
        cases d : dash y with
        | true => exact name_lit (lit_bare ly)
        | false =>
          have e := bare_no d
          exact minus_lit (by have := lit_bare ly; rw [e] at this; exact this)
      have liM : ∀ z ∈ L ++ [flip y], isLit z = true := fun z mz => by
        rcases List.mem_append.mp mz with h | h
        · exact li z h
        · rw [List.mem_singleton.mp h]; exact fl
      obtain ⟨N, od⟩ := ord_any ((L ++ [flip y]).map bare)
      have cat := el_cat (els_at (te := tVar 2) (σ := [some (.ref a), some (.ref nb), some (.ref b), some (.int st), some (.int (m : Int)), v5, v6]) (ev_var rfl) hb7) (els_new (el_lst (ea_cons (ev_call (sp := spPure fun z => .str (flip z)) (dvs := []) (E := E0) (z := .str (flip y)) (ea_cons (ev_op (ev_var (i := 2) rfl) (ev_var (i := 4) rfl) (rv_ixL (K := K) (sq_of hb7) (atI_nat hy))) ea_nil) fun H8 e8 Q q E => ⟨y, rfl, Nat.le_trans (lit_txt ly).1 (by decide), q⟩) ea_nil) (by show 1 ≤ 100000; decide))) (by rw [List.length_map]; show L.length + 1 ≤ _; omega)
      have fw := due_few od liM
      rw [List.length_append] at fw
      have fw2 : (due (L ++ [flip y]) N).length ≤ 7 := Nat.le_trans fw (by show L.length + 1 ≤ 7; omega)
      refine s_asgL (el_ordN (M := L ++ [flip y]) (by rw [List.map_append]; exact cat) (by rw [List.length_append]; show L.length + 1 ≤ 40; omega) (fun z mz => Nat.le_trans (lit_txt (liM z mz)).1 (by decide)) od) (fun p H8 np e8 hp => ?_)
      have e68 := e7.trans e8
      exact ⟨p, due (L ++ [flip y]) N, v5, v6, rfl, srl_ex S5 e68, e68 _ _ hn5, hp, but_fr B5 S5 (fresh_back e7 np), but_ex B5 e68, cw_lits (by omega) (fun z mz => liM z ((due_mem od z).mp mz)), fun h => absurd h (by omega)⟩
    clear lenb hn5 hb5 S5 B5 cw cond fb j2
    obtain ⟨b, L, v5, v6, rfl, S5, hn5, hb5, fb, B5, cw, cond⟩ := id j3
    -- 4: a row of five to eight names
    refine q_cut (M := JT 4 H a l nb ns nms st m) ?_ (fun σ4 H8 j4 => ?_)
    · refine s_when (tst _ _ 4 rfl) (fun c H8 e8 => ?_) (fun c H8 e8 => j3.up (by decide) e8)
      have c1 := of_decide_eq_true c
      refine s_call1 (lc_take rfl (srl_ex S5 e8) fun H9 r r0 r1 S9 B9 => ?_)
      have hn9 := B9 nb _ nba (e8 _ _ hn5)
      have B09 := (but_ex B5 e8).trans B9
      have n8l : ∀ i : Nat, (i : Int) < 5 + r → ∃ z, nms[i]? = some z ∧ isName z = true := fun i hi => by
        have li : i < nms.length := by omega
        exact ⟨nms[i], List.getElem?_eq_getElem li, nm _ (List.getElem_mem li)⟩
      have key : EvL (tLc (iRng1 (tCons (tC (.int (5 + r))) tNil)) (gName 6) tYes (TEK K) [6]) [some (.ref a), some (.ref nb), some (.ref b), some (.int st), some (.int (m : Int)), v5, v6] H9 (((List.range (5 + r).toNat).map fun i => sgT m i ++ (nms[i]?).getD "").map V.str) := by
        have z := el_lcR1 (ta := tCons (tC (.int (5 + r))) tNil) (t := tYes) (te := TEK K) (σ := [some (.ref a), some (.ref nb), some (.ref b), some (.int st), some (.int (m : Int)), v5, v6]) (H := H9) (j := 6) (vs := [6]) (fun _ => true) (fun i => V.str (sgT m i ++ (nms[i]?).getD "")) (ea_cons ev_c ea_nil) ⟨by omega, by omega⟩ (fun _ => rfl) (fun _ _ _ _ => et_yes) (fun i H10 e10 lt _ => by
          obtain ⟨z, hz, nz⟩ := n8l i lt
          rw [hz]
          have t := name_txt nz
          have hi : (nms.map V.str)[i]? = some (.str z) := by rw [List.getElem?_map, hz] <;> rfl
          have sl : (sgT m i).length ≤ 1 := sgT_len m i
          have zl : z.length ≤ 8 := t.1
          exact ev_op (ev_opL1 (xs := [.str "", .str "-"]) (el_lst (ea_cons ev_c (ea_cons ev_c ea_nil)) (by show 2 ≤ 100000; decide)) (fun H11 e11 => ev_op (ev_cb (ea_cons (ev_op (ev_var rfl) (ev_var rfl) rv_I0) ea_nil) fun H12 e12 Q q => .inl ⟨_, rfl, q H12 (Ex.refl H12)⟩) ev_c (rv_I (show (2 : Int) ≠ 0 by decide))) (fun p H11 hp e11 => rv_ixL (K := K) (sq_of hp) (sgT_at m i))) (ev_op (ev_var rfl) (ev_var rfl) (rv_ixL (K := K) (sq_of (e10 _ _ hn9)) (atI_nat hi))) (rv_addT (show (sgT m i).length + z.length ≤ 1000 by omega)))
        rw [given_all] at z
        rw [List.map_map]
        exact z
      have liM : ∀ z ∈ (List.range (5 + r).toNat).map (fun i => sgT m i ++ (nms[i]?).getD ""), isLit z = true := fun z mz => by
        obtain ⟨i, hi, rfl⟩ := List.mem_map.mp mz
        obtain ⟨y, hy, ny⟩ := n8l i (by have := List.mem_range.mp hi; omega)
        rw [hy]
        exact sgT_lit m i ny
      have lM : ((List.range (5 + r).toNat).map fun i => sgT m i ++ (nms[i]?).getD "").length ≤ 8 := by
        rw [List.length_map, List.length_range]
        omega
      generalize ((List.range (5 + r).toNat).map fun i => sgT m i ++ (nms[i]?).getD "") = M at key liM lM
      refine key H9 (Ex.refl H9) _ fun p H10 np e10 hp => ⟨p, M, rfl, hp, by omega, fun z mz => Nat.le_trans (lit_txt (liM z mz)).1 (by decide), fun N od p2 H11 np2 e11 h11 => ?_⟩
      have e911 := e10.trans e11
      exact ⟨p2, due M N, v5, v6, rfl, srl_ex S9 e911, e911 _ _ hn9, h11, but_fr B09 S9 (fresh_back e10 np2), but_ex B09 e911, cw_lits (Nat.le_trans (due_few od liM) lM) (fun z mz => liM z ((due_mem od z).mp mz)), fun h => absurd h (by omega)⟩
    clear hn5 hb5 S5 B5 cw cond fb j3
    obtain ⟨b, L, v5, v6, rfl, S5, hn5, hb5, fb, B5, cw, cond⟩ := id j4
    -- 5: a string that is no literal
    refine q_cut (M := JT 5 H a l nb ns nms st m) ?_ (fun σ5 H9 j5 => ?_)
    · refine s_when (tst _ _ 5 rfl) (fun c H9 e9 => ?_) (fun c H9 e9 => j4.up (by decide) e9)
      have c1 := of_decide_eq_true c
      obtain ⟨f6, li, ml⟩ := cond (by omega)
      have hb9 := e9 _ _ hb5
      have n0 : (nms.map V.str)[0]? = some (.str nms[0]) := by rw [List.getElem?_map, List.getElem?_eq_getElem (by omega)] <;> rfl
      have nn := nm nms[0] (List.getElem_mem (by omega))
      generalize nms[0] = y0 at n0 nn
      refine ⟨_, rfl, .inl ⟨rfl, _, sq_of hb9⟩, _, rfl, .ref a, rfl, .ref nb, rfl, nb, _, 0, .str y0, rfl, rfl, sq_of (e9 _ _ hn5), atI_nat (j := 0) n0, a, l, ns, y0, rfl, srl_ex S5 e9, nn, fun H10 y no ty S10 B10 => ?_⟩
      have B010 := (but_ex B5 e9).trans B10
      have bo := srl_off S fb
      have hb10 := B10 b _ bo.1 hb9
      refine ⟨b, _, (m : Int), _, rfl, rfl, hb10, sz_lt (by rw [List.length_map]; omega), by omega, by omega, ?_⟩
      refine ⟨b, L.take m ++ [y] ++ L.drop m, v5, v6, rfl, srl_put S10 bo.1 bo.2, ?_, ?_, fb, but_set B010 fb, cw_put f6 li ty, fun h => absurd h (by omega)⟩
      · rw [upd_ne (fun e => by rw [e, fb] at hn; cases hn)]
        exact B10 nb _ nba (e9 _ _ hn5)
      · rw [upd_same, List.map_append, List.map_append, List.map_take, List.map_drop]
        rfl
    clear hn5 hb5 S5 B5 cw cond fb j4
    obtain ⟨b, L, v5, v6, rfl, S5, hn5, hb5, fb, B5, cw, cond⟩ := id j5
    refine q_asg (ev_join (K := K) (ev_var rfl) (.inl (sq_of hb5)) (by have := cw.few; omega) (fun z mz => Nat.le_trans (cw.txt z mz).1 (by decide)) (by decide)) (fun H10 e10 => ?_)
    have hb10 := e10 _ _ hb5
    refine q_ifAsg (v := .str (ctext L)) (b := decide (L.length = 0)) (et_is (et_test (ev_op (ev_is (ev_len (ev_var rfl) (sq_of hb10)) rfl) ev_c (rv_eq rfl))) ?_) (fun c => ev_is ev_c ?_) (fun c => ?_) (fun H11 e11 => ?_)
    · rw [List.length_map]
      exact decide_eq_decide.mpr ⟨fun e => by have := V.int.inj e; omega, fun e => congrArg V.int (by omega)⟩
    · have e := List.eq_nil_of_length_eq_zero (of_decide_eq_true c)
      rw [e]
      rfl
    · have ne : L ≠ [] := fun e => by rw [e] at c; cases c
      show _ = _
      unfold ctext
      rw [if_neg ne]
      rfl
    have S11 := srl_ex S5 (e10.trans e11)
    have B11 := but_ex B5 (e10.trans e11)
    have tx : ∀ n, wt L ≤ n → 1 ≤ n → Txt8 n (ctext L) := fun n hw h1 => by
      unfold ctext
      split
      · exact ⟨h1, by decide⟩
      · exact join_txt hw fun z mz => (cw.txt z mz).2
    have t96 := tx 96 cw.w (by decide)
    refine q_when (tst _ _ 6 rfl) (fun c H12 e12 => ?_) (fun c H12 e12 => ?_)
    · have c1 := of_decide_eq_true c
      obtain ⟨f6, li, ml⟩ := cond (by omega)
      have w72 : wt L ≤ 72 := Nat.le_trans (wt_le (k := 9) fun z mz => (lit_txt9 (li z mz)).1) (by omega)
      exact ⟨.ref a, rfl, _, rfl, a, l, ns, ctext L, rfl, srl_ex S11 e12, tx 72 w72 (by decide), fun H' y ty S' B' => q H' y ty S' ((but_ex B11 e12).trans B')⟩
    refine q_when (b := decide (6 < st) && decide (st < 9)) (et_and (et_test (ev_op (ev_var rfl) ev_c (fun H3 _ Q q => ⟨_, _, rfl, rfl, q H3 (Ex.refl H3)⟩))) (fun _ => et_test (ev_op (ev_var rfl) ev_c (fun H3 _ Q q => ⟨_, _, rfl, rfl, q H3 (Ex.refl H3)⟩)))) (fun c2 H13 e13 => ?_) (fun c2 H13 e13 => ?_)
    · rw [Bool.and_eq_true] at c2
      have c1 := of_decide_eq_true c2.1
      obtain ⟨f6, li, ml⟩ := cond (by omega)
      have w72 : wt L ≤ 72 := Nat.le_trans (wt_le (k := 9) fun z mz => (lit_txt9 (li z mz)).1) (by omega)
      have t72 := tx 72 w72 (by decide)
      have zl : (ctext L).length ≤ 72 := t72.1
      have S13 := srl_ex S11 (e12.trans e13)
      refine ⟨.ref a, rfl, _, rfl, .ref a, rfl, _, rfl, ctext L, rfl, line_of (by omega), _, _, rfl, rfl, a, _, l, ns, rfl, S13, by omega, by omega, fun H14 r r0 r1 S14 B14 => ?_⟩
      exact ⟨a, l, ns, ctext L, r, rfl, S14, t72.mono (by decide), r0, fun H' y ty S' B' => q H' y ty S' (((but_ex B11 (e12.trans e13)).trans B14).trans B')⟩
    · exact s_ret (ev_var rfl) fun H14 e14 => q H14 _ (t96.mono (by decide)) (srl_ex S11 ((e12.trans e13).trans e14)) (but_ex B11 ((e12.trans e13).trans e14))
end
open Evl in
theorem okC__law_same (T : Txt P K mg) : L2R.FnC P w K mg base CX0 1 T.f__law_same T.d__law_same ["_law_one", "_law_other"] spSame := by
  refine T.F__law_same.okC sc__law_same (fun vs H Q E h => ?_) (fun cdv A outer s H vs Q E p hr h => ?_)
  · obtain ⟨x, y, rfl, _⟩ := h
    rfl
  · obtain ⟨x, y, rfl, hx, hy, q⟩ := h
    obtain ⟨tx, kx, bx, ix, sx, lx, ux⟩ := kit_flat (K := K) hx
    obtain ⟨ty, ky, by_, iy, sy, ly, uy⟩ := kit_flat (K := K) hy
    have vx : ∀ (σ : L2.St) (H : Hp), σ[0]? = some (some x) → Ev (tVar 0) σ H x := fun σ H e => ev_var e
    have vy : ∀ (σ : L2.St) (H : Hp), σ[1]? = some (some y) → Ev (tVar 1) σ H y := fun σ H e => ev_var e
    refine ⟨_, (pss_cons (ps_if (PW.pt (pw_or (pt_val (pe_callB call_isi (by rfl) T.n_isinstance (by decide +kernel) (pa_cons (pv 0) (pa_cons (pe_bltn (v := .ty "bool") (u := .type "bool") (by rfl) T.n_bool (by decide +kernel) rfl) pa_nil)))) (pw_or1 (pt_val (pe_callB call_isi (by rfl) T.n_isinstance (by decide +kernel) (pa_cons (pv 1) (pa_cons (pe_bltn (v := .ty "bool") (u := .type "bool") (by rfl) T.n_bool (by decide +kernel) rfl) pa_nil))))))) (pss_one (ps_ret (pe_and (pe_callB call_isi (by rfl) T.n_isinstance (by decide +kernel) (pa_cons (pv 0) (pa_cons (pe_bltn (v := .ty "bool") (u := .type "bool") (by rfl) T.n_bool (by decide +kernel) rfl) pa_nil))) (pe_and (pe_callB call_isi (by rfl) T.n_isinstance (by decide +kernel) (pa_cons (pv 1) (pa_cons (pe_bltn (v := .ty "bool") (u := .type "bool") (by rfl) T.n_bool (by decide +kernel) rfl) pa_nil))) (pe_one (pe_cmpR op_eq (pv 0) (pv 1) (nomark _))))))) pss_nil)
      (pss_cons (ps_if (PW.pt (pw_or (pt_val (pe_callB call_isi (by rfl) T.n_isinstance (by decide +kernel) (pa_cons (pv 0) (pa_cons (pe_bltn (v := .ty "int") (u := .type "int") (by rfl) T.n_int (by decide +kernel) rfl) pa_nil)))) (pw_or1 (pt_val (pe_callB call_isi (by rfl) T.n_isinstance (by decide +kernel) (pa_cons (pv 1) (pa_cons (pe_bltn (v := .ty "int") (u := .type "int") (by rfl) T.n_int (by decide +kernel) rfl) pa_nil))))))) (pss_one (ps_ret (pe_and (pe_callB call_isi (by rfl) T.n_isinstance (by decide +kernel) (pa_cons (pv 0) (pa_cons (pe_bltn (v := .ty "int") (u := .type "int") (by rfl) T.n_int (by decide +kernel) rfl) pa_nil))) (pe_and (pe_callB call_isi (by rfl) T.n_isinstance (by decide +kernel) (pa_cons (pv 1) (pa_cons (pe_bltn (v := .ty "int") (u := .type "int") (by rfl) T.n_int (by decide +kernel) rfl) pa_nil))) (pe_one (pe_cmpR op_eq (pv 0) (pv 1) (nomark _))))))) pss_nil)
      (pss_cons (ps_if (PW.pt (pw_or (pt_val (pe_callB call_isi (by rfl) T.n_isinstance (by decide +kernel) (pa_cons (pv 0) (pa_cons (pe_bltn (v := .ty "str") (u := .type "str") (by rfl) T.n_str (by decide +kernel) rfl) pa_nil)))) (pw_or1 (pt_val (pe_callB call_isi (by rfl) T.n_isinstance (by decide +kernel) (pa_cons (pv 1) (pa_cons (pe_bltn (v := .ty "str") (u := .type "str") (by rfl) T.n_str (by decide +kernel) rfl) pa_nil))))))) (pss_one (ps_ret (pe_and (pe_callB call_isi (by rfl) T.n_isinstance (by decide +kernel) (pa_cons (pv 0) (pa_cons (pe_bltn (v := .ty "str") (u := .type "str") (by rfl) T.n_str (by decide +kernel) rfl) pa_nil))) (pe_and (pe_callB call_isi (by rfl) T.n_isinstance (by decide +kernel) (pa_cons (pv 1) (pa_cons (pe_bltn (v := .ty "str") (u := .type "str") (by rfl) T.n_str (by decide +kernel) rfl) pa_nil))) (pe_one (pe_cmpR op_eq (pv 0) (pv 1) (nomark _))))))) pss_nil)
      (pss_cons (ps_set (i := 2) sc__law_same.nd rfl (.inl rfl) (pe_and (pe_callB call_isi (by rfl) T.n_isinstance (by decide +kernel) (pa_cons (pv 0) (pa_cons (pe_bltn (v := .ty "list") (u := .type "list") (by rfl) T.n_list (by decide +kernel) rfl) pa_nil))) (pe_one (pe_callB call_isi (by rfl) T.n_isinstance (by decide +kernel) (pa_cons (pv 1) (pa_cons (pe_bltn (v := .ty "list") (u := .type "list") (by rfl) T.n_list (by decide +kernel) rfl) pa_nil))))))
      (pss_cons (ps_if (PW.pt (pw_and (pt_not (pt_val (pv 2))) (pw_and1 (pt_not (PW.pt (pw_and (pt_val (pe_callB call_isi (by rfl) T.n_isinstance (by decide +kernel) (pa_cons (pv 0) (pa_cons (pe_bltn (v := .ty "tuple") (u := .type "tuple") (by rfl) T.n_tuple (by decide +kernel) rfl) pa_nil)))) (pw_and1 (pt_val (pe_callB call_isi (by rfl) T.n_isinstance (by decide +kernel) (pa_cons (pv 1) (pa_cons (pe_bltn (v := .ty "tuple") (u := .type "tuple") (by rfl) T.n_tuple (by decide +kernel) rfl) pa_nil))))))))))) (pss_one (ps_ret (pe_and (pe_cmpR op_isN (pv 0) pe_non (nomark _)) (pe_one (pe_cmpR op_isN (pv 1) pe_non (nomark _)))))) pss_nil)
      (pss_one ps_never)))))), ?_⟩
    have cmp : ∀ (σ : L2.St) (H1 : Hp), σ[0]? = some (some x) → σ[1]? = some (some y) → scal x y = true → Ev (tOp rEq (tVar 0) (tVar 1)) σ H1 (.bl (decide (x = y))) := fun σ H1 e0 e1 hs => ev_op (ev_var e0) (ev_var e1) (rv_eq hs)
    refine q_when (et_or (et_B (ev_isi (vx _ _ rfl) kx bx)) (fun _ => et_B (ev_isi (vy _ _ rfl) ky by_))) (fun hb H1 e1 => ?_) (fun hb H1 e1 => ?_)
    · refine s_ret (v := .bl (decide (x = y))) (ev_is (ev_andV (ev_isi (vx _ _ rfl) kx bx) (fun h1 => ev_andV (b := decide (x = y)) (ev_isi (vy _ _ rfl) ky by_) (fun h2 => cmp _ _ rfl rfl (scal_flat hx hy (.inl ⟨h1, h2⟩))))) ?_) (fun H2 e2 => q H2 (e1.trans e2))
      cases h1 : isBl x with
      | true =>
        cases h2 : isBl y with
        | true => rfl
        | false => rw [decide_eq_false (ne_bl h1 h2)]; rfl
      | false =>
        rw [h1] at hb
        have h2 : isBl y = true := hb
        rw [decide_eq_false (ne_bl h2 h1).symm]
        rfl
    · have nb : isBl x = false ∧ isBl y = false := by simpa using hb
      rw [nb.1] at ix
      rw [nb.2] at iy
      refine q_when (et_or (et_B (ev_isi (vx _ _ rfl) kx ix)) (fun _ => et_B (ev_isi (vy _ _ rfl) ky iy))) (fun hi H2 e2 => ?_) (fun hi H2 e2 => ?_)
      · refine s_ret (v := .bl (decide (x = y))) (ev_is (ev_andV (ev_isi (vx _ _ rfl) kx ix) (fun h1 => ev_andV (b := decide (x = y)) (ev_isi (vy _ _ rfl) ky iy) (fun h2 => cmp _ _ rfl rfl (scal_flat hx hy (.inr (.inl ⟨h1, h2⟩)))))) ?_) (fun H3 e3 => q H3 ((e1.trans e2).trans e3))
        cases x <;> cases y <;> simp_all [isIn, isBl]
      · have ni : isIn x = false ∧ isIn y = false := by simpa using hi
        refine q_when (et_or (et_B (ev_isi (vx _ _ rfl) kx sx)) (fun _ => et_B (ev_isi (vy _ _ rfl) ky sy))) (fun hs H3 e3 => ?_) (fun hs H3 e3 => ?_)
        · refine s_ret (v := .bl (decide (x = y))) (ev_is (ev_andV (ev_isi (vx _ _ rfl) kx sx) (fun h1 => ev_andV (b := decide (x = y)) (ev_isi (vy _ _ rfl) ky sy) (fun h2 => cmp _ _ rfl rfl (scal_flat hx hy (.inr (.inr ⟨h1, h2⟩)))))) ?_) (fun H4 e4 => q H4 (((e1.trans e2).trans e3).trans e4))
          cases x <;> cases y <;> simp_all [isSt, isBl]
        · have ns : isSt x = false ∧ isSt y = false := by simpa using hs
          have xn : x = .non := non_of hx nb.1 ni.1 ns.1
          have yn : y = .non := non_of hy nb.2 ni.2 ns.2
          refine q_asg (v := .bl false) (ev_is (ev_andV (b := false) (ev_isi (vx _ _ rfl) kx lx) (fun _ => ev_isi (vy _ _ rfl) ky ly)) rfl) (fun H4 e4 => ?_)
          refine q_when (b := true) (et_is (et_and (et_not (et_B (ev_var rfl))) (fun _ => et_not (et_and (b := false) (et_B (ev_isi (vx _ _ rfl) kx ux)) (fun _ => et_B (ev_isi (vy _ _ rfl) ky uy))))) rfl) (fun _ H5 e5 => ?_) (fun hf => by cases hf)
          refine s_ret (v := .bl true) (ev_is (ev_andV (a := true) (b := true) (ev_op (vx _ _ rfl) ev_c (fun H6 _ Q' q' => ⟨rfl, ?_⟩)) (fun _ => ev_op (vy _ _ rfl) ev_c (fun H6 _ Q' q' => ⟨rfl, ?_⟩))) rfl) (fun H6 e6 => ?_)
          · rw [xn]
            exact q' H6 (Ex.refl H6)
          · rw [yn]
            exact q' H6 (Ex.refl H6)
          · have z := q H6 (((((e1.trans e2).trans e3).trans e4).trans e5).trans e6)
            rw [xn, yn] at z
            exact z
section
open Evl
theorem takes0L {X : Cx} : L2.Takes X (fun _ _ _ _ => False) := fun _ _ x => by
  obtain ⟨_, _, _, _, _, _, _, _, _, _, _, _, _, _, _, _, z⟩ := x
  exact z.elim
/-- _law_refused(text) -/
def spRefT : Sp := fun vs H Q _ => ∃ z : Str, vs = [.str z] ∧ Txt8 99 z ∧ ¬ Good z ∧ ∀ H', Ex H H' → Q (.bl true) H'
theorem ok__law_refused (T : Txt P K mg) : FnOk P w K mg base CX0 13 T.f__law_refused T.d__law_refused ["_law_text_here"] spRefT := by
  refine T.F__law_refused.ok sc__law_refused (fun vs H Q E h => ?_) (fun cdv A outer s H vs Q E hr h => ?_)
  · obtain ⟨z, rfl, _⟩ := h
    rfl
  · obtain ⟨z, rfl, t, ng, q⟩ := h
    refine ⟨_, (pss_cons (L2.ps_try_as (i := 1) (tb := fun W => tDrop (tCallS (spReadC T.C_Clause T.C_BadText) (WE W) (tCons (tVar 0) tNil)))
      (ts := fun a cls d => tSeq (tAsg (tAndV (tCB (rIsF K T.C_BadText a cls d) (tCons (tVar 1) (tCons (tC (.ref T.C_HornError)) tNil))) (tCB (rIsF K T.C_BadText a cls d) (tCons (tVar 1) (tCons (tC (.ty "ValueError")) tNil)))) (gName 2)) (tRet (tAndV (tVar 2) (tAndV (tNotV (tCB (rIsFT K T.C_BadText a cls d) (tCons (tVar 1) (tCons (tTup (tCons (tC (.ref T.C_BadLiteral)) (tCons (tC (.ref T.C_BothSigns)) (tCons (tC (.ref T.C_TooMany)) tNil)))) tNil)))) (tCallS spSame (fun _ => E0) (tCons (tByF T.C_BadText a cls d "line" (tVar 1)) (tCons (tC (.int 1)) tNil)))))))
      (Wout := fun _ _ _ _ => False) rfl rfl sc__law_refused.nd rfl rfl ⟨rfl, by decide, Or.inl T.E_BadText.gC⟩ takes0L
      (fun W pn xe tk _ => (pss_one (ps_expr (pe_callS (ok_read_clause T) (hr.mono (by decide)) rfl T.g_read_clause T.F_read_clause.kp T.b_read_clause (fun σ => L2.passAt tk σ) (by exact (pa_cons (pv 0) pa_nil))))))
      (fun a oe cls d pn hz hf => (pss_cons (ps_set (i := 2) sc__law_refused.nd rfl (.inl rfl) (pe_and (pe_callB (call_isF T.x_BadText hz hf) (by rfl) T.n_isinstance (by decide +kernel) (pa_cons (pv 1) (pa_cons (pe_glob (v := .ref T.C_HornError) rfl T.g_HornError rfl) pa_nil))) (pe_one (pe_callB (call_isF T.x_BadText hz hf) (by rfl) T.n_isinstance (by decide +kernel) (pa_cons (pv 1) (pa_cons (pe_bltn (v := .ty "ValueError") (u := .type "ValueError") (by rfl) T.n_ValueError (by decide +kernel) rfl) pa_nil))))))
      (pss_one (ps_ret (pe_and (pv 2) (pe_and (pe_not (pe_callB (call_isFT T.x_BadText hz hf) (by rfl) T.n_isinstance (by decide +kernel) (pa_cons (pv 1) (pa_cons (pe_tup (pa_cons (pe_glob (v := .ref T.C_BadLiteral) rfl T.E_BadLiteral.gC rfl) (pa_cons (pe_glob (v := .ref T.C_BothSigns) rfl T.E_BothSigns.gC rfl) (pa_cons (pe_glob (v := .ref T.C_TooMany) rfl T.E_TooMany.gC rfl) pa_nil)))) pa_nil)))) (pe_one (L2R.pe_callC (p := (a, oe)) (okC__law_same T) (L2H.RoomH.mono (room_suite hr) (by decide)) List.mem_cons_self rfl T.g__law_same T.F__law_same.kp T.b__law_same pass0H (pa_cons (pe_byF T.E_BadText T.o_BadText hz hf (pv 1)) (pa_cons pe_int pa_nil)))))))))))
      (pss_one (ps_ret pe_bl))), ?_⟩
    obtain ⟨b1, k1, rfl⟩ := T.k_BadText_HornError
    obtain ⟨b2, k2, rfl⟩ := T.k_BadText_ValueError
    obtain ⟨b3, k3, rfl⟩ := T.k_BadText_BadLiteral
    obtain ⟨b4, k4, rfl⟩ := T.k_BadText_BothSigns
    obtain ⟨b5, k5, rfl⟩ := T.k_BadText_TooMany
    have any : PySem.W.kitAny K (.ref T.C_BadText) [.ref T.C_BadLiteral, .ref T.C_BothSigns, .ref T.C_TooMany] = some false := by
      unfold PySem.W.kitAny
      rw [k3]
      dsimp only
      unfold PySem.W.kitAny
      rw [k4]
      dsimp only
      unfold PySem.W.kitAny
      rw [k5]
      rfl
    refine ⟨.str z, rfl, z, rfl, t, fun g => absurd g ng, fun _ H1 x e1 hx => ?_⟩
    refine ⟨true, T.E_BadText.te, fun _ y na => ?_, fun q => Bool.noConfusion q⟩
    have hxx : ∀ {H2 : Hp}, H2 x = some (.xd [("line", .int 1)]) → ∀ dx, some x = some dx → ∃ fs, H2 dx = some (.xd fs) := fun h dx e => ⟨_, (Option.some.inj e) ▸ h⟩
    refine ⟨_, rfl, rfl, .ref T.C_HornError, .ref T.C_HornError, _, rfl, fun u e => e, hxx hx, k1, _, rfl, iteT ?_⟩
    refine ⟨_, rfl, rfl, .ty "ValueError", .type "ValueError", _, rfl, fun u e => e, hxx hx, k2, ?_⟩
    refine ⟨_, rfl, _, rfl, iteT ?_⟩
    refine ⟨_, rfl, (by show 3 ≤ sizeLine; decide), fun u nu => ⟨rfl, u, [.ref T.C_BadLiteral, .ref T.C_BothSigns, .ref T.C_TooMany], [.ref T.C_BadLiteral, .ref T.C_BothSigns, .ref T.C_TooMany], _, rfl, Evl.st_of upd_same, fun us ru => ?_, hxx (by rw [upd_ne (ne_of_none hx nu)]; exact hx), any, _, rfl, _, rfl, iteT ?_⟩⟩
    · cases ru with
      | cons a1 r1 => cases r1 with
        | cons a2 r2 => cases r2 with
          | cons a3 r3 => cases r3; cases a1; cases a2; cases a3; rfl
    refine ⟨_, rfl, rfl, rfl, x, _, rfl, (by rw [upd_ne (ne_of_none hx nu)]; exact hx), .int 1, .int 1, rfl, rfl, rfl, fun H2 e2 => ?_⟩
    rw [show decide (V.int 1 = V.int 1) = true from decide_eq_true rfl]
    exact q H2 ((e1.trans (Ex.new nu)).trans e2)
end
section
open Evl
theorem passL0 {X : Cx} : Passes (L2.CX X.prog X.w) X E0 := fun _ _ _ _ _ _ _ h => by
  obtain ⟨_, _, _, _, _, _, _, _, _, _, _, _, z⟩ := h
  exact z.elim
theorem lt_unit0 {n k : Nat} (h : n + 16 * k + 200 < cLine) : n < cLine := by omega
theorem eu_tupV {σ : L2.St} {H : Hp} {te : TE} {p : Addr} {xs : List V} (h : Ev te σ H (.ref p)) (hp : H p = some (.lst xs)) : EvU (tCB (fun xs H Q => ∃ p ys, xs = [.ref p] ∧ ((SqL K H p ys ∧ ∀ l, H l = none → Q (.ref l) (upd H l (.tup ys))) ∨ (SqT K H p ys ∧ Q (.ref p) H))) (tCons te tNil)) σ H xs := fun H1 e1 Q q =>
  h H1 e1 _ fun H2 e2 => ⟨p, xs, rfl, .inl ⟨SqL.of (e2 _ _ (e1 _ _ hp)), fun l nl => q l _ (fresh_back e2 nl) (e2.trans (Ex.new nl)) upd_same⟩⟩
theorem ev_eqE (T : Txt P K mg) {σ : L2.St} {H : Hp} {ta tb : TE} {a : Addr} {D F : List Str} (h1 : Ev ta σ H (.ref a)) (h2 : EvC T.C_Clause tb σ H F) (ca : ClAt T.C_Clause H a D) (l1 : Asc D) (l2 : Asc F) {E : XK} :
    Ev (tOp (rCmO K T.C_Clause (spCEq T.C_Clause) E) ta tb) σ H (.bl (decide (D = F))) := fun H0 e0 Q q =>
  h1 H0 e0 _ fun H1 e1 => h2 H1 (e0.trans e1) _ fun b H2 e2 cb => by
    have ca := ca.mono ((e0.trans e1).trans e2)
    obtain ⟨dx, p, ha, hp⟩ := id ca
    obtain ⟨dy, r, hb, hr⟩ := id cb
    exact ⟨a, dx, _, .ref T.C_Clause, rfl, ha, ty_clause T hb, (by unfold PySem.W.notFirst; simp), a, b, D, F, rfl, ca, cb, l1, l2, fun H3 e3 => q H3 ((e1.trans e2).trans e3)⟩
theorem ok_law (T : Txt P K mg) : FnOk P w K mg base CX0 14 T.f_law T.d_law ["_law_script"] (spLaw K) := by
  refine T.F_law.ok sc_law (fun vs H Q E h => ?_) (fun cdv A outer s H vs Q E hr h => ?_)
  · obtain ⟨a, ns, rfl, _⟩ := h
    rfl
  · obtain ⟨a, ns0, rfl, hS, hl, kk⟩ := h
    have hu := hr.un
    refine ⟨_, (pss_cons (ps_set (i := 1) sc_law.nd rfl (.inl rfl) (pe_call (ok__law_source T) (hr.mono (by decide)) rfl T.g__law_source T.F__law_source.kp T.b__law_source .nil pass0 (pa_cons (pv 0) pa_nil)))
      (pss_cons (ps_set (i := 2) sc_law.nd rfl (.inl rfl) (pe_call (ok__law_names T) (hr.mono (by decide)) rfl T.g__law_names T.F__law_names.kp T.b__law_names .nil pass0 (pa_cons (pv 1) (pa_cons pe_int pa_nil))))
      (pss_cons (ps_for PassesOwn.never rfl (pi_range1 rfl T.n_range (pa_cons pe_int pa_nil)) (pg_name (i := 3) sc_law.nd rfl (.inl rfl)) (pss_cons (ps_set (i := 4) sc_law.nd rfl (.inl rfl) (pe_call (ok__law_text T) (hr.mono (by decide)) rfl T.g__law_text T.F__law_text.kp T.b__law_text .nil pass0 (pa_cons (pv 1) (pa_cons (pv 2) pa_nil))))
      (pss_cons (ps_set (i := 5) sc_law.nd rfl (.inl rfl) (pe_call (ok__law_row_of T) (hr.mono (by decide)) rfl T.g__law_row_of T.F__law_row_of.kp T.b__law_row_of .nil pass0 (pa_cons (pv 4) pa_nil)))
      (pss_one (ps_if (pt_cmpR op_isN (pv 5) pe_non (nomark _)) (pss_one (ps_if (pt_not (pt_val (pe_call (ok__law_refused T) (hr.mono (by decide)) rfl T.g__law_refused T.F__law_refused.kp T.b__law_refused .nil pass0 (pa_cons (pv 4) pa_nil)))) (pss_one (ps_ret pe_bl)) pss_nil)) (pss_cons (ps_set (i := 6) sc_law.nd rfl (.inl rfl) (pe_call (ok_read_clause T) (hr.mono (by decide)) rfl T.g_read_clause T.F_read_clause.kp T.b_read_clause .nil passL0 (pa_cons (pv 4) pa_nil)))
      (pss_cons (ps_if (PW.pt (pw_or (pt_not (pt_val (pe_callB call_isi (by rfl) T.n_isinstance (by decide +kernel) (pa_cons (pv 6) (pa_cons (pe_glob (v := .ref T.C_Clause) rfl T.g_Clause rfl) pa_nil))))) (pw_or1 (pt_not (pt_val (pe_call (okN__law_same T 1) (hr.mono (by decide)) rfl T.g__law_same T.F__law_same.kp T.b__law_same .nil pass0 (pa_cons (pe_fld (pv 6) rfl) (pa_cons (pe_callTy call_tuple_of (by rfl) T.n_tuple (by decide +kernel) (pa_cons (pv 5) pa_nil)) pa_nil)))))))) (pss_one (ps_ret pe_bl)) pss_nil)
      (pss_one (ps_if (PW.pt (pw_or (pt_not (pt_val (pe_call (okN__law_same T 1) (hr.mono (by decide)) rfl T.g__law_same T.F__law_same.kp T.b__law_same .nil pass0 (pa_cons (pe_callTy (call_strO T.m_Clause_str T.i_Clause_str (ok_Clause_str T) (hr.mono (by decide)) T.b_Clause_str pass0) (by rfl) T.n_str (by decide +kernel) (pa_cons (pv 6) pa_nil)) (pa_cons (pv 4) pa_nil))))) (pw_or1 (pt_not (pt_val (pe_call (okN__law_same T 1) (hr.mono (by decide)) rfl T.g__law_same T.F__law_same.kp T.b__law_same .nil pass0 (pa_cons (pe_cmpR (op_cmO ⟨T.m_Clause_eq, T.i_Clause_eq⟩ (fun _ _ => rfl) (by exact lt_unit0 (k := 13) hu) (ok_Clause_eq T) (hr.mono (by decide)) T.b_Clause_eq pass0) (pv 6) (pe_call (ok__law_clause T) (hr.mono (by decide)) rfl T.g__law_clause T.F__law_clause.kp T.b__law_clause .nil passN0 (pa_cons (pv 5) pa_nil)) (nomark _)) (pa_cons pe_bl pa_nil)))))))) (pss_one (ps_ret pe_bl)) pss_nil)))))))))
      (pss_one (ps_ret pe_bl))))), ?_⟩
    refine ⟨.ref a, rfl, a, ns0, rfl, hS, fun H1 u S1 nu0 same => ?_⟩
    obtain ⟨l, ns, SL⟩ := S1
    refine ⟨.ref u, rfl, u, l, ns, 8, rfl, SL, by decide, by decide, fun H2 pn nms n2 S2 B2 h2 cnt ok nd => ?_⟩
    have c8 : nms.length = 8 := cnt
    have pnu := (srl_off SL n2).1
    refine q_forR1 (n := 2) (j := 3) (ea_cons ev_c ea_nil) (by decide) (fun i σ H' => ∃ v3 v4 v5 v6 : Option V, σ = [some (V.ref a), some (.ref u), some (.ref pn), v3, v4, v5, v6] ∧ SrcL H' u l ns ∧ H' pn = some (.lst (nms.map V.str)))
      (fun H4 e4 => ⟨_, _, _, _, rfl, srl_ex S2 e4, e4 _ _ h2⟩) ?_ ?_
    · rintro i σ H4 hi ⟨v3, v4, v5, v6, rfl, S4, hN⟩
      refine ⟨.ref u, rfl, .ref pn, rfl, u, l, pn, ns, nms, rfl, S4, hN, pnu, c8, ok, fun H5 z tz S5 B5 => ?_⟩
      have hN5 := B5 pn _ pnu hN
      refine ⟨_, rfl, z, rfl, tz, fun g p H6 np e6 hp => ?_, fun ng H6 e6 => ?_⟩
      · dsimp only [gName]
        refine s_if (b := false) (et_is (et_test (ev_op (ev_var rfl) ev_c (fun H7 _ Q q => ⟨rfl, q H7 (Ex.refl H7)⟩))) rfl) (fun c => by cases c) (fun _ H7 e7 => ?_)
        refine ⟨_, rfl, z, rfl, tz, fun _ H8 x e8 cx => ?_, fun ng => absurd g ng⟩
        have hp8 := e8 _ _ (e7 _ _ hp)
        have ok6 := lits_row g.row
        have asc : Asc (litsOf z) := fun y m => (ok6.2 y m).2.2
        obtain ⟨dx, t, hc, ht⟩ := id cx
        refine q_when (b := false) (et_is (et_or (et_not (et_B (ev_isC T (ev_var rfl) hc))) (fun _ => et_not (et_B (ev_sNU (n := 0) (ev_lts T (ev_var rfl) hc) ht (eu_tupV (ev_var rfl) hp8) (by have := g.row.few; omega))))) rfl) (fun c => by cases c) (fun _ H9 e9 => ?_)
        obtain ⟨N, od⟩ := ord_any ((litsOf z).map bare)
        have o := g.ord N od
        have cx9 := cx.mono e9
        have cl := ec_clause (CB := T.C_BadLiteral) (CS := T.C_BothSigns) (CT := T.C_TooMany) (C := T.C_Clause) (te := tVar 5) (σ := [some (V.ref a), some (.ref u), some (.ref pn), some (.int (i : Int)), some (.str z), some (.ref p), some (.ref x)]) (ev_var rfl) (e9 _ _ hp8) g.row od
        rw [o] at cl
        refine s_when (b := false) (et_is (et_or (et_not (et_B (ev_sN (n := 1) (x := .str z) (ev_is (ev_strC (ev_var rfl) cx9 ok6) (congrArg V.str (good_text g))) (ev_var rfl) rfl))) (fun _ => et_not (et_B (ev_sN (n := 1) (x := .bl true) (ev_is (ev_eqE T (ev_var rfl) cl cx9 asc asc) (congrArg V.bl (decide_eq_true rfl))) ev_c rfl)))) rfl) (fun c => by cases c) (fun _ Ha ea => ?_)
        have e5a := (((e6.trans e7).trans e8).trans e9).trans ea
        exact ⟨_, _, _, _, rfl, srl_ex S5 e5a, e5a _ _ hN5⟩
      · dsimp only [gName]
        refine s_if (b := true) (et_is (et_test (ev_op (ev_var rfl) ev_c (fun H7 _ Q q => ⟨rfl, q H7 (Ex.refl H7)⟩))) rfl) (fun _ H7 e7 => ?_) (fun c => by cases c)
        refine s_when (b := false) (et_is (et_not (et_B (ev_call (z := .bl true) (ea_cons (ev_var rfl) ea_nil) fun H8 e8 Q q E => ⟨z, rfl, tz, ng, q⟩))) rfl) (fun c => by cases c) (fun _ H8 e8 => ?_)
        have e58 := (e6.trans e7).trans e8
        exact ⟨_, _, _, _, rfl, srl_ex S5 e58, e58 _ _ hN5⟩
    · rintro σ H4 ⟨v3, v4, v5, v6, rfl, S4, hN⟩
      exact s_ret ev_c fun H5 e5 => kk _
end
end
theorem all_mk {l : PySem.W.OpenLaw} {w : World} {K : PySem.W.Frag} {h : Heap} {mg : Str → Option Value} {fa : Addr} (X : K.In h) (G : h.Ns mainGlobals mg) (hfa : mg "law" = some (.ref fa))
    {C_Clause f0 f1 f2 f3 f4 f5 f6 f7 f8 f9 f10 f11 f12 f13 f14 f15 f16 f17 f18 f19 f20 f21 f22 f23 f24 f25 f26 f27 f28 f29 f30 f31 f32 f33 C_HornError C_BadLiteral i_BadLiteral cda1 cc1 C_BadText i_BadText cda2 cc2 C_BothSigns i_BothSigns cda3 cc3 C_TooMany i_TooMany cda4 cc4 : Addr} {od0 an0 od1 an1 od2 an2 od3 an3 od4 an4 od5 an5 od6 an6 od7 an7 od8 an8 od9 an9 od10 an10 od11 an11 od12 an12 od13 an13 od14 an14 od15 an15 od16 an16 od17 an17 od18 an18 od19 an19 od20 an20 od21 an21 od22 an22 od23 an23 od24 an24 od25 an25 od26 an26 od27 an27 od28 an28 od29 an29 od30 an30 od31 an31 od32 an32 od33 an33 : Option Addr} {sl0 sl1 sl2 sl3 sl4 sl5 sl6 sl7 sl8 sl9 sl10 sl11 sl12 sl13 sl14 sl15 sl16 sl17 sl18 sl19 sl20 sl21 sl22 sl23 sl24 sl25 sl26 sl27 sl28 sl29 sl30 sl31 sl32 sl33 : Array (Option Value)} {oc0 kV0 dc0 pm0 cd0 ct0 oc1 kV1 dc1 pm1 cd1 ct1 oc2 kV2 dc2 pm2 cd2 ct2 oc3 kV3 dc3 pm3 cd3 ct3 oc4 kV4 dc4 pm4 cd4 ct4 oc5 kV5 dc5 pm5 cd5 ct5 oc6 kV6 dc6 pm6 cd6 ct6 oc7 kV7 dc7 pm7 cd7 ct7 oc8 kV8 dc8 pm8 cd8 ct8 oc9 kV9 dc9 pm9 cd9 ct9 oc10 kV10 dc10 pm10 cd10 ct10 oc11 kV11 dc11 pm11 cd11 ct11 oc12 kV12 dc12 pm12 cd12 ct12 oc13 kV13 dc13 pm13 cd13 ct13 oc14 kV14 dc14 pm14 cd14 ct14 oc15 kV15 dc15 pm15 cd15 ct15 oc16 kV16 dc16 pm16 cd16 ct16 oc17 kV17 dc17 pm17 cd17 ct17 oc18 kV18 dc18 pm18 cd18 ct18 oc19 kV19 dc19 pm19 cd19 ct19 oc20 kV20 dc20 pm20 cd20 ct20 oc21 kV21 dc21 pm21 cd21 ct21 oc22 kV22 dc22 pm22 cd22 ct22 oc23 kV23 dc23 pm23 cd23 ct23 oc24 kV24 dc24 pm24 cd24 ct24 oc25 kV25 dc25 pm25 cd25 ct25 oc26 kV26 dc26 pm26 cd26 ct26 oc27 kV27 dc27 pm27 cd27 ct27 oc28 kV28 dc28 pm28 cd28 ct28 oc29 kV29 dc29 pm29 cd29 ct29 oc30 kV30 dc30 pm30 cd30 ct30 oc31 kV31 dc31 pm31 cd31 ct31 oc32 kV32 dc32 pm32 cd32 ct32 oc33 kV33 dc33 pm33 cd33 ct33 : Value} {tk0 tk1 tk2 cvt_Clause_LIMIT : Tok}
    {n_1 q_1 : Str} {N_1 : Addr} {bs_1 bm_1 : List Value} {sn_1 : List Str} {sub_1 : List Value} {ab_1 : Bool} {col_1 : Option Bool} {dd_1 : Option Addr} {w0_1 w1_1 w2_1 w3_1 w5_1 : Option Value} {oce_1 dce_1 pme_1 cte_1 ccl_1 cl_1 : Value} {ode_1 ane_1 cdd_1 cld_1 : Option Addr} {sle_1 ccs_1 csl_1 : Array (Option Value)} {vs_1 : Array Value} {file_1 : Str} {tf_1 : Tok}
    {n_2 q_2 : Str} {N_2 : Addr} {bs_2 bm_2 : List Value} {sn_2 : List Str} {sub_2 : List Value} {ab_2 : Bool} {col_2 : Option Bool} {dd_2 : Option Addr} {w0_2 w1_2 w2_2 w3_2 w5_2 : Option Value} {oce_2 dce_2 pme_2 cte_2 ccl_2 cl_2 : Value} {ode_2 ane_2 cdd_2 cld_2 : Option Addr} {sle_2 ccs_2 csl_2 : Array (Option Value)} {vs_2 : Array Value} {file_2 : Str} {tf_2 : Tok}
    {n_3 q_3 : Str} {N_3 : Addr} {bs_3 bm_3 : List Value} {sn_3 : List Str} {sub_3 : List Value} {ab_3 : Bool} {col_3 : Option Bool} {dd_3 : Option Addr} {w0_3 w1_3 w2_3 w3_3 w5_3 : Option Value} {oce_3 dce_3 pme_3 cte_3 ccl_3 cl_3 : Value} {ode_3 ane_3 cdd_3 cld_3 : Option Addr} {sle_3 ccs_3 csl_3 : Array (Option Value)} {vs_3 : Array Value} {file_3 : Str} {tf_3 : Tok}
    {n_4 q_4 : Str} {N_4 : Addr} {bs_4 bm_4 : List Value} {sn_4 : List Str} {sub_4 : List Value} {ab_4 : Bool} {col_4 : Option Bool} {dd_4 : Option Addr} {w0_4 w1_4 w2_4 w3_4 w5_4 : Option Value} {oce_4 dce_4 pme_4 cte_4 ccl_4 cl_4 : Value} {ode_4 ane_4 cdd_4 cld_4 : Option Addr} {sle_4 ccs_4 csl_4 : Array (Option Value)} {vs_4 : Array Value} {file_4 : Str} {tf_4 : Tok}
    (cg0 : PySem.W.nsIn K mainGlobals "Clause" = some (some (.ref C_Clause)))
    (cpg0 : PySem.W.plainGet K C_Clause Str.empty = true)
    (chd0 : PySem.W.hasDictIn K C_Clause = true)
    (cpo0 : PySem.W.plainOver K C_Clause = true)
    (csa0 : PySem.W.findIn K (.ref C_Clause) "__setattr__" = some (some (.builtin "object.__setattr__")))
    (cmi0 : PySem.W.makesIn K C_Clause = true)
    (ckc0 : PySem.W.keepIn K (.ref C_Clause) = true)
    (cha0 : PySem.W.findIn K (.ref C_Clause) "__class__" = some (some (.builtin "object.__class__")))
    (cmo0 : PySem.W.mroIn K C_Clause (.type "object") = some true)
    (cme0 : PySem.W.kitOne K (.ref C_Clause) (.ref C_Clause) = some true)
    (cna0_0 : PySem.W.findIn K (.ref C_Clause) "literals" = some none)
    (om_Clause : mro2 K C_Clause = true)
    (ckt0 : PySem.W.kitOne K (.type "str") (.ref C_Clause) = some false)
    (cvr_Clause : PySem.W.readsIn K C_Clause (.type "type") = true)
    (cvg_Clause : PySem.W.specialIn K (.ref C_Clause) "__getattribute__" = some (some (.builtin "type.__getattribute__")))
    (cvf_Clause_LIMIT : PySem.W.findCls K (.ref C_Clause) (.type "type") "LIMIT" = some (.val (.int 6 cvt_Clause_LIMIT)))
    (a0 : PySem.W.nsIn K mainGlobals "is_name" = some (some (.ref f0)))
    (l0 : K.lookup f0 = some ⟨oc0, od0, .func (PySem.W.fnOf "is_name" "is_name" (defArgs s_is_name) (defBody s_is_name) (defScope s_is_name) .none kV0 dc0 pm0 an0 cd0 ct0), sl0⟩)
    (c0 : PySem.W.codeIn K cd0 "is_name" = true)
    (k0 : PySem.W.keepIn K (.ref f0) = true)
    (a1 : PySem.W.nsIn K mainGlobals "is_literal" = some (some (.ref f1)))
    (l1 : K.lookup f1 = some ⟨oc1, od1, .func (PySem.W.fnOf "is_literal" "is_literal" (defArgs s_is_literal) (defBody s_is_literal) (defScope s_is_literal) .none kV1 dc1 pm1 an1 cd1 ct1), sl1⟩)
    (c1 : PySem.W.codeIn K cd1 "is_literal" = true)
    (k1 : PySem.W.keepIn K (.ref f1) = true)
    (a2 : PySem.W.nsIn K mainGlobals "check_literal" = some (some (.ref f2)))
    (l2 : K.lookup f2 = some ⟨oc2, od2, .func (PySem.W.fnOf "check_literal" "check_literal" (defArgs s_check_literal) (defBody s_check_literal) (defScope s_check_literal) .none kV2 dc2 pm2 an2 cd2 ct2), sl2⟩)
    (c2 : PySem.W.codeIn K cd2 "check_literal" = true)
    (k2 : PySem.W.keepIn K (.ref f2) = true)
    (a3 : PySem.W.nsIn K mainGlobals "name_of" = some (some (.ref f3)))
    (l3 : K.lookup f3 = some ⟨oc3, od3, .func (PySem.W.fnOf "name_of" "name_of" (defArgs s_name_of) (defBody s_name_of) (defScope s_name_of) .none kV3 dc3 pm3 an3 cd3 ct3), sl3⟩)
    (c3 : PySem.W.codeIn K cd3 "name_of" = true)
    (k3 : PySem.W.keepIn K (.ref f3) = true)
    (a4 : PySem.W.nsIn K mainGlobals "is_positive" = some (some (.ref f4)))
    (l4 : K.lookup f4 = some ⟨oc4, od4, .func (PySem.W.fnOf "is_positive" "is_positive" (defArgs s_is_positive) (defBody s_is_positive) (defScope s_is_positive) .none kV4 dc4 pm4 an4 cd4 ct4), sl4⟩)
    (c4 : PySem.W.codeIn K cd4 "is_positive" = true)
    (k4 : PySem.W.keepIn K (.ref f4) = true)
    (a5 : PySem.W.nsIn K mainGlobals "negated" = some (some (.ref f5)))
    (l5 : K.lookup f5 = some ⟨oc5, od5, .func (PySem.W.fnOf "negated" "negated" (defArgs s_negated) (defBody s_negated) (defScope s_negated) .none kV5 dc5 pm5 an5 cd5 ct5), sl5⟩)
    (c5 : PySem.W.codeIn K cd5 "negated" = true)
    (k5 : PySem.W.keepIn K (.ref f5) = true)
    (a6 : PySem.W.nsIn K mainGlobals "both_signs" = some (some (.ref f6)))
    (l6 : K.lookup f6 = some ⟨oc6, od6, .func (PySem.W.fnOf "both_signs" "both_signs" (defArgs s_both_signs) (defBody s_both_signs) (defScope s_both_signs) .none kV6 dc6 pm6 an6 cd6 ct6), sl6⟩)
    (c6 : PySem.W.codeIn K cd6 "both_signs" = true)
    (k6 : PySem.W.keepIn K (.ref f6) = true)
    (a7 : PySem.W.nsIn K mainGlobals "in_order" = some (some (.ref f7)))
    (l7 : K.lookup f7 = some ⟨oc7, od7, .func (PySem.W.fnOf "in_order" "in_order" (defArgs s_in_order) (defBody s_in_order) (defScope s_in_order) .none kV7 dc7 pm7 an7 cd7 ct7), sl7⟩)
    (c7 : PySem.W.codeIn K cd7 "in_order" = true)
    (k7 : PySem.W.keepIn K (.ref f7) = true)
    (a8 : PySem.W.nsIn K mainGlobals "check_signs" = some (some (.ref f8)))
    (l8 : K.lookup f8 = some ⟨oc8, od8, .func (PySem.W.fnOf "check_signs" "check_signs" (defArgs s_check_signs) (defBody s_check_signs) (defScope s_check_signs) .none kV8 dc8 pm8 an8 cd8 ct8), sl8⟩)
    (c8 : PySem.W.codeIn K cd8 "check_signs" = true)
    (k8 : PySem.W.keepIn K (.ref f8) = true)
    (a9 : PySem.W.findIn K (.ref C_Clause) "__init__" = some (some (.ref f9)))
    (l9 : K.lookup f9 = some ⟨oc9, od9, .func (PySem.W.fnOf "__init__" "Clause.__init__" (defArgs s_Clause_init) (defBody s_Clause_init) (defScope s_Clause_init) .none kV9 dc9 pm9 an9 cd9 ct9), sl9⟩)
    (if9 : PySem.W.isFn K (.ref f9) = true)
    (c9 : PySem.W.codeIn K cd9 "Clause.__init__" = true)
    (k9 : PySem.W.keepIn K (.ref f9) = true)
    (a10 : PySem.W.findIn K (.ref C_Clause) "__eq__" = some (some (.ref f10)))
    (l10 : K.lookup f10 = some ⟨oc10, od10, .func (PySem.W.fnOf "__eq__" "Clause.__eq__" (defArgs s_Clause_eq) (defBody s_Clause_eq) (defScope s_Clause_eq) .none kV10 dc10 pm10 an10 cd10 ct10), sl10⟩)
    (if10 : PySem.W.isFn K (.ref f10) = true)
    (c10 : PySem.W.codeIn K cd10 "Clause.__eq__" = true)
    (k10 : PySem.W.keepIn K (.ref f10) = true)
    (a11 : PySem.W.findIn K (.ref C_Clause) "__str__" = some (some (.ref f11)))
    (l11 : K.lookup f11 = some ⟨oc11, od11, .func (PySem.W.fnOf "__str__" "Clause.__str__" (defArgs s_Clause_str) (defBody s_Clause_str) (defScope s_Clause_str) .none kV11 dc11 pm11 an11 cd11 ct11), sl11⟩)
    (if11 : PySem.W.isFn K (.ref f11) = true)
    (c11 : PySem.W.codeIn K cd11 "Clause.__str__" = true)
    (k11 : PySem.W.keepIn K (.ref f11) = true)
    (a12 : PySem.W.nsIn K mainGlobals "_clause_in" = some (some (.ref f12)))
    (l12 : K.lookup f12 = some ⟨oc12, od12, .func (PySem.W.fnOf "_clause_in" "_clause_in" (defArgs s__clause_in) (defBody s__clause_in) (defScope s__clause_in) .none kV12 dc12 pm12 an12 cd12 ct12), sl12⟩)
    (c12 : PySem.W.codeIn K cd12 "_clause_in" = true)
    (k12 : PySem.W.keepIn K (.ref f12) = true)
    (a13 : PySem.W.nsIn K mainGlobals "read_clause" = some (some (.ref f13)))
    (l13 : K.lookup f13 = some ⟨oc13, od13, .func (PySem.W.fnOf "read_clause" "read_clause" (defArgs s_read_clause) (defBody s_read_clause) (defScope s_read_clause) .none kV13 dc13 pm13 an13 cd13 ct13), sl13⟩)
    (c13 : PySem.W.codeIn K cd13 "read_clause" = true)
    (k13 : PySem.W.keepIn K (.ref f13) = true)
    (a14 : PySem.W.nsIn K mainGlobals "_law_source" = some (some (.ref f14)))
    (l14 : K.lookup f14 = some ⟨oc14, od14, .func (PySem.W.fnOf "_law_source" "_law_source" (defArgs s__law_source) (defBody s__law_source) (defScope s__law_source) .none kV14 dc14 pm14 an14 cd14 ct14), sl14⟩)
    (c14 : PySem.W.codeIn K cd14 "_law_source" = true)
    (k14 : PySem.W.keepIn K (.ref f14) = true)
    (a15 : PySem.W.nsIn K mainGlobals "_law_take" = some (some (.ref f15)))
    (l15 : K.lookup f15 = some ⟨oc15, od15, .func (PySem.W.fnOf "_law_take" "_law_take" (defArgs s__law_take) (defBody s__law_take) (defScope s__law_take) .none kV15 dc15 pm15 an15 cd15 ct15), sl15⟩)
    (c15 : PySem.W.codeIn K cd15 "_law_take" = true)
    (k15 : PySem.W.keepIn K (.ref f15) = true)
    (a16 : PySem.W.nsIn K mainGlobals "_law_word" = some (some (.ref f16)))
    (l16 : K.lookup f16 = some ⟨oc16, od16, .func (PySem.W.fnOf "_law_word" "_law_word" (defArgs s__law_word) (defBody s__law_word) (defScope s__law_word) .none kV16 dc16 pm16 an16 cd16 ct16), sl16⟩)
    (c16 : PySem.W.codeIn K cd16 "_law_word" = true)
    (k16 : PySem.W.keepIn K (.ref f16) = true)
    (a17 : PySem.W.nsIn K mainGlobals "_law_names" = some (some (.ref f17)))
    (l17 : K.lookup f17 = some ⟨oc17, od17, .func (PySem.W.fnOf "_law_names" "_law_names" (defArgs s__law_names) (defBody s__law_names) (defScope s__law_names) .none kV17 dc17 pm17 an17 cd17 ct17), sl17⟩)
    (c17 : PySem.W.codeIn K cd17 "_law_names" = true)
    (k17 : PySem.W.keepIn K (.ref f17) = true)
    (a18 : PySem.W.nsIn K mainGlobals "_law_flip" = some (some (.ref f18)))
    (l18 : K.lookup f18 = some ⟨oc18, od18, .func (PySem.W.fnOf "_law_flip" "_law_flip" (defArgs s__law_flip) (defBody s__law_flip) (defScope s__law_flip) .none kV18 dc18 pm18 an18 cd18 ct18), sl18⟩)
    (c18 : PySem.W.codeIn K cd18 "_law_flip" = true)
    (k18 : PySem.W.keepIn K (.ref f18) = true)
    (a19 : PySem.W.nsIn K mainGlobals "_law_name" = some (some (.ref f19)))
    (l19 : K.lookup f19 = some ⟨oc19, od19, .func (PySem.W.fnOf "_law_name" "_law_name" (defArgs s__law_name) (defBody s__law_name) (defScope s__law_name) .none kV19 dc19 pm19 an19 cd19 ct19), sl19⟩)
    (c19 : PySem.W.codeIn K cd19 "_law_name" = true)
    (k19 : PySem.W.keepIn K (.ref f19) = true)
    (a20 : PySem.W.nsIn K mainGlobals "_law_sorted" = some (some (.ref f20)))
    (l20 : K.lookup f20 = some ⟨oc20, od20, .func (PySem.W.fnOf "_law_sorted" "_law_sorted" (defArgs s__law_sorted) (defBody s__law_sorted) (defScope s__law_sorted) .none kV20 dc20 pm20 an20 cd20 ct20), sl20⟩)
    (c20 : PySem.W.codeIn K cd20 "_law_sorted" = true)
    (k20 : PySem.W.keepIn K (.ref f20) = true)
    (a21 : PySem.W.nsIn K mainGlobals "_law_ordered" = some (some (.ref f21)))
    (l21 : K.lookup f21 = some ⟨oc21, od21, .func (PySem.W.fnOf "_law_ordered" "_law_ordered" (defArgs s__law_ordered) (defBody s__law_ordered) (defScope s__law_ordered) .none kV21 dc21 pm21 an21 cd21 ct21), sl21⟩)
    (c21 : PySem.W.codeIn K cd21 "_law_ordered" = true)
    (k21 : PySem.W.keepIn K (.ref f21) = true)
    (a22 : PySem.W.nsIn K mainGlobals "_law_same" = some (some (.ref f22)))
    (l22 : K.lookup f22 = some ⟨oc22, od22, .func (PySem.W.fnOf "_law_same" "_law_same" (defArgs s__law_same) (defBody s__law_same) (defScope s__law_same) .none kV22 dc22 pm22 an22 cd22 ct22), sl22⟩)
    (c22 : PySem.W.codeIn K cd22 "_law_same" = true)
    (k22 : PySem.W.keepIn K (.ref f22) = true)
    (a23 : PySem.W.nsIn K mainGlobals "_law_row" = some (some (.ref f23)))
    (l23 : K.lookup f23 = some ⟨oc23, od23, .func (PySem.W.fnOf "_law_row" "_law_row" (defArgs s__law_row) (defBody s__law_row) (defScope s__law_row) .none kV23 dc23 pm23 an23 cd23 ct23), sl23⟩)
    (c23 : PySem.W.codeIn K cd23 "_law_row" = true)
    (k23 : PySem.W.keepIn K (.ref f23) = true)
    (a24 : PySem.W.nsIn K mainGlobals "_law_clause" = some (some (.ref f24)))
    (l24 : K.lookup f24 = some ⟨oc24, od24, .func (PySem.W.fnOf "_law_clause" "_law_clause" (defArgs s__law_clause) (defBody s__law_clause) (defScope s__law_clause) .none kV24 dc24 pm24 an24 cd24 ct24), sl24⟩)
    (c24 : PySem.W.codeIn K cd24 "_law_clause" = true)
    (k24 : PySem.W.keepIn K (.ref f24) = true)
    (a25 : PySem.W.nsIn K mainGlobals "_law_bad" = some (some (.ref f25)))
    (l25 : K.lookup f25 = some ⟨oc25, od25, .func (PySem.W.fnOf "_law_bad" "_law_bad" (defArgs s__law_bad) (defBody s__law_bad) (defScope s__law_bad) .none kV25 dc25 pm25 an25 cd25 ct25), sl25⟩)
    (c25 : PySem.W.codeIn K cd25 "_law_bad" = true)
    (k25 : PySem.W.keepIn K (.ref f25) = true)
    (a26 : PySem.W.nsIn K mainGlobals "_law_sign" = some (some (.ref f26)))
    (l26 : K.lookup f26 = some ⟨oc26, od26, .func (PySem.W.fnOf "_law_sign" "_law_sign" (defArgs s__law_sign) (defBody s__law_sign) (defScope s__law_sign) .none kV26 dc26 pm26 an26 cd26 ct26), sl26⟩)
    (c26 : PySem.W.codeIn K cd26 "_law_sign" = true)
    (k26 : PySem.W.keepIn K (.ref f26) = true)
    (a27 : PySem.W.nsIn K mainGlobals "_law_is_name" = some (some (.ref f27)))
    (l27 : K.lookup f27 = some ⟨oc27, od27, .func (PySem.W.fnOf "_law_is_name" "_law_is_name" (defArgs s__law_is_name) (defBody s__law_is_name) (defScope s__law_is_name) .none kV27 dc27 pm27 an27 cd27 ct27), sl27⟩)
    (c27 : PySem.W.codeIn K cd27 "_law_is_name" = true)
    (k27 : PySem.W.keepIn K (.ref f27) = true)
    (a28 : PySem.W.nsIn K mainGlobals "_law_row_of" = some (some (.ref f28)))
    (l28 : K.lookup f28 = some ⟨oc28, od28, .func (PySem.W.fnOf "_law_row_of" "_law_row_of" (defArgs s__law_row_of) (defBody s__law_row_of) (defScope s__law_row_of) .none kV28 dc28 pm28 an28 cd28 ct28), sl28⟩)
    (c28 : PySem.W.codeIn K cd28 "_law_row_of" = true)
    (k28 : PySem.W.keepIn K (.ref f28) = true)
    (a29 : PySem.W.nsIn K mainGlobals "_law_changed" = some (some (.ref f29)))
    (l29 : K.lookup f29 = some ⟨oc29, od29, .func (PySem.W.fnOf "_law_changed" "_law_changed" (defArgs s__law_changed) (defBody s__law_changed) (defScope s__law_changed) .none kV29 dc29 pm29 an29 cd29 ct29), sl29⟩)
    (c29 : PySem.W.codeIn K cd29 "_law_changed" = true)
    (k29 : PySem.W.keepIn K (.ref f29) = true)
    (a30 : PySem.W.nsIn K mainGlobals "_law_spaced" = some (some (.ref f30)))
    (l30 : K.lookup f30 = some ⟨oc30, od30, .func (PySem.W.fnOf "_law_spaced" "_law_spaced" (defArgs s__law_spaced) (defBody s__law_spaced) (defScope s__law_spaced) .none kV30 dc30 pm30 an30 cd30 ct30), sl30⟩)
    (c30 : PySem.W.codeIn K cd30 "_law_spaced" = true)
    (k30 : PySem.W.keepIn K (.ref f30) = true)
    (a31 : PySem.W.nsIn K mainGlobals "_law_text" = some (some (.ref f31)))
    (l31 : K.lookup f31 = some ⟨oc31, od31, .func (PySem.W.fnOf "_law_text" "_law_text" (defArgs s__law_text) (defBody s__law_text) (defScope s__law_text) .none kV31 dc31 pm31 an31 cd31 ct31), sl31⟩)
    (c31 : PySem.W.codeIn K cd31 "_law_text" = true)
    (k31 : PySem.W.keepIn K (.ref f31) = true)
    (a32 : PySem.W.nsIn K mainGlobals "_law_refused" = some (some (.ref f32)))
    (l32 : K.lookup f32 = some ⟨oc32, od32, .func (PySem.W.fnOf "_law_refused" "_law_refused" (defArgs s__law_refused) (defBody s__law_refused) (defScope s__law_refused) .none kV32 dc32 pm32 an32 cd32 ct32), sl32⟩)
    (c32 : PySem.W.codeIn K cd32 "_law_refused" = true)
    (k32 : PySem.W.keepIn K (.ref f32) = true)
    (a33 : PySem.W.nsIn K mainGlobals "law" = some (some (.ref f33)))
    (l33 : K.lookup f33 = some ⟨oc33, od33, .func (PySem.W.fnOf "law" "law" (defArgs s_law) (defBody s_law) (defScope s_law) .none kV33 dc33 pm33 an33 cd33 ct33), sl33⟩)
    (c33 : PySem.W.codeIn K cd33 "law" = true)
    (k33 : PySem.W.keepIn K (.ref f33) = true)
    (v0 : PySem.W.nsIn K mainGlobals "LETTERS" = some (some (.str "abcdefghijklmnopqrstuvwxyz" tk0)))
    (v1 : PySem.W.nsIn K mainGlobals "LETTERS_AND_DIGITS" = some (some (.str "abcdefghijklmnopqrstuvwxyz0123456789" tk1)))
    (v2 : PySem.W.nsIn K mainGlobals "LONGEST_NAME" = some (some (.int 8 tk2)))
    (eg0 : PySem.W.nsIn K mainGlobals "HornError" = some (some (.ref C_HornError)))
    (eg1 : PySem.W.nsIn K mainGlobals "BadLiteral" = some (some (.ref C_BadLiteral)))
    (el1 : K.lookup C_BadLiteral = some (excClassObj n_1 q_1 C_BadLiteral N_1 bs_1 bm_1 true sn_1 sub_1 ab_1 col_1 dd_1 w0_1 w1_1 w2_1 w3_1 w5_1 "ValueError.__new__"))
    (er1 : PySem.HandSPX.refsVE bm_1 = true)
    (esa1 : PySem.W.findIn K (.ref C_BadLiteral) "__setattr__" = some (some (.builtin "object.__setattr__")))
    (ega1 : PySem.W.findIn K (.ref C_BadLiteral) "__getattribute__" = some (some (.builtin "BaseException.__getattribute__")))
    (egg1 : PySem.W.findIn K (.ref C_BadLiteral) "__getattr__" = some none)
    (ein1 : PySem.W.findIn K (.ref C_BadLiteral) "__init__" = some (some (.ref i_BadLiteral)))
    (ecl1 : PySem.W.findIn K (.ref C_BadLiteral) "__class__" = some (some (.builtin "object.__class__")))
    (efn1 : PySem.W.findIn K (.ref C_BadLiteral) "text" = some none)
    (eti1 : PySem.W.typeIn K (.ref i_BadLiteral) = some (.type "function"))
    (ekc1 : PySem.W.keepIn K (.ref C_BadLiteral) = true)
    (ebe1 : PySem.W.subIn K (.ref C_BadLiteral) (.type "BaseException") = some true)
    (eve1 : PySem.W.subIn K (.ref C_BadLiteral) (.type "ValueError") = some true)
    (ety1 : PySem.W.typeIn K (.ref C_BadLiteral) = some (.type "type"))
    (ehd1 : PySem.W.hasDictIn K C_BadLiteral = true)
    (eic1 : PySem.W.isClsIn K C_BadLiteral = true)
    (ess1 : PySem.W.subIn K (.ref C_BadLiteral) (.ref C_BadLiteral) = some true)
    (eup1 : PySem.W.ks_superIn K C_BadLiteral C_BadLiteral "__init__" = some (some (.builtin "ValueError.__init__")))
    (emr1 : PySem.W.mroIn K C_BadLiteral (.ref C_BadLiteral) = some true)
    (emo1 : PySem.W.mroIn K C_BadLiteral (.type "object") = some true)
    (elf1 : K.lookup i_BadLiteral = some ⟨oce_1, ode_1, .func (PySem.W.ksFn "__init__" ("BadLiteral" ++ ".__init__") ea_BadLiteral eb_BadLiteral (scope1 "text") .none .none dce_1 pme_1 ane_1 (.ref cda1) cte_1 cc1), sle_1⟩)
    (ecd1 : PySem.W.codeIn K (.ref cda1) ("BadLiteral" ++ ".__init__") = true)
    (elc1 : K.lookup cda1 = some ⟨ccl_1, cdd_1, .fields vs_1, ccs_1⟩)
    (evs1 : vs_1[2]? = some (.str file_1 tf_1))
    (efi1 : (l.prog.main.file == file_1) = true)
    (ece1 : K.lookup cc1 = some ⟨cl_1, cld_1, .cell (some (.ref C_BadLiteral)), csl_1⟩)
    (eg2 : PySem.W.nsIn K mainGlobals "BadText" = some (some (.ref C_BadText)))
    (el2 : K.lookup C_BadText = some (excClassObj n_2 q_2 C_BadText N_2 bs_2 bm_2 true sn_2 sub_2 ab_2 col_2 dd_2 w0_2 w1_2 w2_2 w3_2 w5_2 "ValueError.__new__"))
    (er2 : PySem.HandSPX.refsVE bm_2 = true)
    (esa2 : PySem.W.findIn K (.ref C_BadText) "__setattr__" = some (some (.builtin "object.__setattr__")))
    (ega2 : PySem.W.findIn K (.ref C_BadText) "__getattribute__" = some (some (.builtin "BaseException.__getattribute__")))
    (egg2 : PySem.W.findIn K (.ref C_BadText) "__getattr__" = some none)
    (ein2 : PySem.W.findIn K (.ref C_BadText) "__init__" = some (some (.ref i_BadText)))
    (ecl2 : PySem.W.findIn K (.ref C_BadText) "__class__" = some (some (.builtin "object.__class__")))
    (efn2 : PySem.W.findIn K (.ref C_BadText) "line" = some none)
    (eti2 : PySem.W.typeIn K (.ref i_BadText) = some (.type "function"))
    (ekc2 : PySem.W.keepIn K (.ref C_BadText) = true)
    (ebe2 : PySem.W.subIn K (.ref C_BadText) (.type "BaseException") = some true)
    (eve2 : PySem.W.subIn K (.ref C_BadText) (.type "ValueError") = some true)
    (ety2 : PySem.W.typeIn K (.ref C_BadText) = some (.type "type"))
    (ehd2 : PySem.W.hasDictIn K C_BadText = true)
    (eic2 : PySem.W.isClsIn K C_BadText = true)
    (ess2 : PySem.W.subIn K (.ref C_BadText) (.ref C_BadText) = some true)
    (eup2 : PySem.W.ks_superIn K C_BadText C_BadText "__init__" = some (some (.builtin "ValueError.__init__")))
    (emr2 : PySem.W.mroIn K C_BadText (.ref C_BadText) = some true)
    (emo2 : PySem.W.mroIn K C_BadText (.type "object") = some true)
    (elf2 : K.lookup i_BadText = some ⟨oce_2, ode_2, .func (PySem.W.ksFn "__init__" ("BadText" ++ ".__init__") ea_BadText eb_BadText (scope1 "line") .none .none dce_2 pme_2 ane_2 (.ref cda2) cte_2 cc2), sle_2⟩)
    (ecd2 : PySem.W.codeIn K (.ref cda2) ("BadText" ++ ".__init__") = true)
    (elc2 : K.lookup cda2 = some ⟨ccl_2, cdd_2, .fields vs_2, ccs_2⟩)
    (evs2 : vs_2[2]? = some (.str file_2 tf_2))
    (efi2 : (l.prog.main.file == file_2) = true)
    (ece2 : K.lookup cc2 = some ⟨cl_2, cld_2, .cell (some (.ref C_BadText)), csl_2⟩)
    (eg3 : PySem.W.nsIn K mainGlobals "BothSigns" = some (some (.ref C_BothSigns)))
    (el3 : K.lookup C_BothSigns = some (excClassObj n_3 q_3 C_BothSigns N_3 bs_3 bm_3 true sn_3 sub_3 ab_3 col_3 dd_3 w0_3 w1_3 w2_3 w3_3 w5_3 "ValueError.__new__"))
    (er3 : PySem.HandSPX.refsVE bm_3 = true)
    (esa3 : PySem.W.findIn K (.ref C_BothSigns) "__setattr__" = some (some (.builtin "object.__setattr__")))
    (ega3 : PySem.W.findIn K (.ref C_BothSigns) "__getattribute__" = some (some (.builtin "BaseException.__getattribute__")))
    (egg3 : PySem.W.findIn K (.ref C_BothSigns) "__getattr__" = some none)
    (ein3 : PySem.W.findIn K (.ref C_BothSigns) "__init__" = some (some (.ref i_BothSigns)))
    (ecl3 : PySem.W.findIn K (.ref C_BothSigns) "__class__" = some (some (.builtin "object.__class__")))
    (efn3 : PySem.W.findIn K (.ref C_BothSigns) "name" = some none)
    (eti3 : PySem.W.typeIn K (.ref i_BothSigns) = some (.type "function"))
    (ekc3 : PySem.W.keepIn K (.ref C_BothSigns) = true)
    (ebe3 : PySem.W.subIn K (.ref C_BothSigns) (.type "BaseException") = some true)
    (eve3 : PySem.W.subIn K (.ref C_BothSigns) (.type "ValueError") = some true)
    (ety3 : PySem.W.typeIn K (.ref C_BothSigns) = some (.type "type"))
    (ehd3 : PySem.W.hasDictIn K C_BothSigns = true)
    (eic3 : PySem.W.isClsIn K C_BothSigns = true)
    (ess3 : PySem.W.subIn K (.ref C_BothSigns) (.ref C_BothSigns) = some true)
    (eup3 : PySem.W.ks_superIn K C_BothSigns C_BothSigns "__init__" = some (some (.builtin "ValueError.__init__")))
    (emr3 : PySem.W.mroIn K C_BothSigns (.ref C_BothSigns) = some true)
    (emo3 : PySem.W.mroIn K C_BothSigns (.type "object") = some true)
    (elf3 : K.lookup i_BothSigns = some ⟨oce_3, ode_3, .func (PySem.W.ksFn "__init__" ("BothSigns" ++ ".__init__") ea_BothSigns eb_BothSigns (scope1 "name") .none .none dce_3 pme_3 ane_3 (.ref cda3) cte_3 cc3), sle_3⟩)
    (ecd3 : PySem.W.codeIn K (.ref cda3) ("BothSigns" ++ ".__init__") = true)
    (elc3 : K.lookup cda3 = some ⟨ccl_3, cdd_3, .fields vs_3, ccs_3⟩)
    (evs3 : vs_3[2]? = some (.str file_3 tf_3))
    (efi3 : (l.prog.main.file == file_3) = true)
    (ece3 : K.lookup cc3 = some ⟨cl_3, cld_3, .cell (some (.ref C_BothSigns)), csl_3⟩)
    (eg4 : PySem.W.nsIn K mainGlobals "TooMany" = some (some (.ref C_TooMany)))
    (el4 : K.lookup C_TooMany = some (excClassObj n_4 q_4 C_TooMany N_4 bs_4 bm_4 true sn_4 sub_4 ab_4 col_4 dd_4 w0_4 w1_4 w2_4 w3_4 w5_4 "ValueError.__new__"))
    (er4 : PySem.HandSPX.refsVE bm_4 = true)
    (esa4 : PySem.W.findIn K (.ref C_TooMany) "__setattr__" = some (some (.builtin "object.__setattr__")))
    (ega4 : PySem.W.findIn K (.ref C_TooMany) "__getattribute__" = some (some (.builtin "BaseException.__getattribute__")))
    (egg4 : PySem.W.findIn K (.ref C_TooMany) "__getattr__" = some none)
    (ein4 : PySem.W.findIn K (.ref C_TooMany) "__init__" = some (some (.ref i_TooMany)))
    (ecl4 : PySem.W.findIn K (.ref C_TooMany) "__class__" = some (some (.builtin "object.__class__")))
    (efn4 : PySem.W.findIn K (.ref C_TooMany) "limit" = some none)
    (eti4 : PySem.W.typeIn K (.ref i_TooMany) = some (.type "function"))
    (ekc4 : PySem.W.keepIn K (.ref C_TooMany) = true)
    (ebe4 : PySem.W.subIn K (.ref C_TooMany) (.type "BaseException") = some true)
    (eve4 : PySem.W.subIn K (.ref C_TooMany) (.type "ValueError") = some true)
    (ety4 : PySem.W.typeIn K (.ref C_TooMany) = some (.type "type"))
    (ehd4 : PySem.W.hasDictIn K C_TooMany = true)
    (eic4 : PySem.W.isClsIn K C_TooMany = true)
    (ess4 : PySem.W.subIn K (.ref C_TooMany) (.ref C_TooMany) = some true)
    (eup4 : PySem.W.ks_superIn K C_TooMany C_TooMany "__init__" = some (some (.builtin "ValueError.__init__")))
    (emr4 : PySem.W.mroIn K C_TooMany (.ref C_TooMany) = some true)
    (emo4 : PySem.W.mroIn K C_TooMany (.type "object") = some true)
    (elf4 : K.lookup i_TooMany = some ⟨oce_4, ode_4, .func (PySem.W.ksFn "__init__" ("TooMany" ++ ".__init__") ea_TooMany eb_TooMany (scope1 "limit") .none .none dce_4 pme_4 ane_4 (.ref cda4) cte_4 cc4), sle_4⟩)
    (ecd4 : PySem.W.codeIn K (.ref cda4) ("TooMany" ++ ".__init__") = true)
    (elc4 : K.lookup cda4 = some ⟨ccl_4, cdd_4, .fields vs_4, ccs_4⟩)
    (evs4 : vs_4[2]? = some (.str file_4 tf_4))
    (efi4 : (l.prog.main.file == file_4) = true)
    (ece4 : K.lookup cc4 = some ⟨cl_4, cld_4, .cell (some (.ref C_TooMany)), csl_4⟩)
    (kt0 : PySem.W.kitOne K (.ref C_BadLiteral) (.ref C_BadLiteral) = some true)
    (kt1 : PySem.W.kitOne K (.ref C_BadLiteral) (.ref C_BothSigns) = some false)
    (kt2 : PySem.W.kitOne K (.ref C_BadLiteral) (.ref C_HornError) = some true)
    (kt3 : PySem.W.kitOne K (.ref C_BadLiteral) (.ref C_TooMany) = some false)
    (kt4 : PySem.W.kitOne K (.ref C_BadLiteral) (.type "ValueError") = some true)
    (kt5 : PySem.W.kitOne K (.ref C_BadText) (.ref C_BadLiteral) = some false)
    (kt6 : PySem.W.kitOne K (.ref C_BadText) (.ref C_BothSigns) = some false)
    (kt7 : PySem.W.kitOne K (.ref C_BadText) (.ref C_HornError) = some true)
    (kt8 : PySem.W.kitOne K (.ref C_BadText) (.ref C_TooMany) = some false)
    (kt9 : PySem.W.kitOne K (.ref C_BadText) (.type "ValueError") = some true)
    (kt10 : PySem.W.kitOne K (.ref C_BothSigns) (.ref C_BadLiteral) = some false)
    (kt11 : PySem.W.kitOne K (.ref C_BothSigns) (.ref C_BothSigns) = some true)
    (kt12 : PySem.W.kitOne K (.ref C_BothSigns) (.ref C_HornError) = some true)
    (kt13 : PySem.W.kitOne K (.ref C_BothSigns) (.ref C_TooMany) = some false)
    (kt14 : PySem.W.kitOne K (.ref C_BothSigns) (.type "ValueError") = some true)
    (kt15 : PySem.W.kitOne K (.ref C_TooMany) (.ref C_BadLiteral) = some false)
    (kt16 : PySem.W.kitOne K (.ref C_TooMany) (.ref C_BothSigns) = some false)
    (kt17 : PySem.W.kitOne K (.ref C_TooMany) (.ref C_HornError) = some true)
    (kt18 : PySem.W.kitOne K (.ref C_TooMany) (.ref C_TooMany) = some true)
    (kt19 : PySem.W.kitOne K (.ref C_TooMany) (.type "ValueError") = some true)
    (sun_BothSigns_BadLiteral : PySem.W.subIn K (.ref C_BothSigns) (.ref C_BadLiteral) = some false)
    (sun_TooMany_BadLiteral : PySem.W.subIn K (.ref C_TooMany) (.ref C_BadLiteral) = some false)
    (sun_TooMany_BothSigns : PySem.W.subIn K (.ref C_TooMany) (.ref C_BothSigns) = some false)
    (sun_BadLiteral_BothSigns : PySem.W.subIn K (.ref C_BadLiteral) (.ref C_BothSigns) = some false)
    (sun_BadLiteral_TooMany : PySem.W.subIn K (.ref C_BadLiteral) (.ref C_TooMany) = some false)
    (sun_BothSigns_TooMany : PySem.W.subIn K (.ref C_BothSigns) (.ref C_TooMany) = some false)
    (z0 : PySem.W.nsIn K mainGlobals "NotImplemented" = some none)
    (z1 : PySem.W.nsIn K mainGlobals "ValueError" = some none)
    (z2 : PySem.W.nsIn K mainGlobals "all" = some none)
    (z3 : PySem.W.nsIn K mainGlobals "any" = some none)
    (z4 : PySem.W.nsIn K mainGlobals "bool" = some none)
    (z5 : PySem.W.nsIn K mainGlobals "int" = some none)
    (z6 : PySem.W.nsIn K mainGlobals "isinstance" = some none)
    (z7 : PySem.W.nsIn K mainGlobals "iter" = some none)
    (z8 : PySem.W.nsIn K mainGlobals "len" = some none)
    (z9 : PySem.W.nsIn K mainGlobals "list" = some none)
    (z10 : PySem.W.nsIn K mainGlobals "property" = some none)
    (z11 : PySem.W.nsIn K mainGlobals "range" = some none)
    (z12 : PySem.W.nsIn K mainGlobals "set" = some none)
    (z13 : PySem.W.nsIn K mainGlobals "sorted" = some none)
    (z14 : PySem.W.nsIn K mainGlobals "str" = some none)
    (zsu : PySem.W.nsIn K mainGlobals "super" = some none)
    (z16 : PySem.W.nsIn K mainGlobals "tuple" = some none)
    (zop : PySem.W.nsIn K cStatics "thirdparty.any" = some none)
    (zsp : PySem.W.specialIn K (.builtin "object.__class__") "__get__" = some (some (.builtin "getset_descriptor.__get__")))
    (ztk : PySem.W.takesIn K (.builtin "object.__class__") = some true)
    (znm : (l.prog.main.scope.names.lookup ("super" : Str)).isSome = false)
    : ∃ fd : FuncData, (∀ (s : Shared) (v : Value), BindsTo s fd ⟨[v], []⟩ [("_law_script", v)]) ∧ ∀ base : Heap, K.In base → base.Ns mainGlobals mg → FnOk l.prog w K mg base CX0 14 fa fd ["_law_script"] (spLaw K) := by
  have e := hfa.symm.trans (PySem.W.mg_of X G a33)
  cases e
  have cl0 : Cls K C_Clause := ⟨cpg0, chd0, cpo0, csa0⟩
  have F0 := fun_mk (st := s_is_name) l0 c0 k0
  have b0 := F0.binds (ps := ["text"]) fun _ _ _ _ _ _ us hl => match us, hl with | [_], _ => rfl
  have F1 := fun_mk (st := s_is_literal) l1 c1 k1
  have b1 := F1.binds (ps := ["text"]) fun _ _ _ _ _ _ us hl => match us, hl with | [_], _ => rfl
  have F2 := fun_mk (st := s_check_literal) l2 c2 k2
  have b2 := F2.binds (ps := ["text"]) fun _ _ _ _ _ _ us hl => match us, hl with | [_], _ => rfl
  have F3 := fun_mk (st := s_name_of) l3 c3 k3
  have b3 := F3.binds (ps := ["literal"]) fun _ _ _ _ _ _ us hl => match us, hl with | [_], _ => rfl
  have F4 := fun_mk (st := s_is_positive) l4 c4 k4
  have b4 := F4.binds (ps := ["literal"]) fun _ _ _ _ _ _ us hl => match us, hl with | [_], _ => rfl
  have F5 := fun_mk (st := s_negated) l5 c5 k5
  have b5 := F5.binds (ps := ["literal"]) fun _ _ _ _ _ _ us hl => match us, hl with | [_], _ => rfl
  have F6 := fun_mk (st := s_both_signs) l6 c6 k6
  have b6 := F6.binds (ps := ["names"]) fun _ _ _ _ _ _ us hl => match us, hl with | [_], _ => rfl
  have F7 := fun_mk (st := s_in_order) l7 c7 k7
  have b7 := F7.binds (ps := ["literals"]) fun _ _ _ _ _ _ us hl => match us, hl with | [_], _ => rfl
  have F8 := fun_mk (st := s_check_signs) l8 c8 k8
  have b8 := F8.binds (ps := ["ordered"]) fun _ _ _ _ _ _ us hl => match us, hl with | [_], _ => rfl
  have F9 := fun_mk (st := s_Clause_init) l9 c9 k9
  have F10 := fun_mk (st := s_Clause_eq) l10 c10 k10
  have b10 := F10.binds (ps := ["self", "other"]) fun _ _ _ _ _ _ us hl => match us, hl with | [_, _], _ => rfl
  have F11 := fun_mk (st := s_Clause_str) l11 c11 k11
  have b11 := F11.binds (ps := ["self"]) fun _ _ _ _ _ _ us hl => match us, hl with | [_], _ => rfl
  have F12 := fun_mk (st := s__clause_in) l12 c12 k12
  have b12 := F12.binds (ps := ["text", "line"]) fun _ _ _ _ _ _ us hl => match us, hl with | [_, _], _ => rfl
  have F13 := fun_mk (st := s_read_clause) l13 c13 k13
  have b13 := F13.binds (ps := ["text"]) fun _ _ _ _ _ _ us hl => match us, hl with | [_], _ => rfl
  have F14 := fun_mk (st := s__law_source) l14 c14 k14
  have b14 := F14.binds (ps := ["_law_script"]) fun _ _ _ _ _ _ us hl => match us, hl with | [_], _ => rfl
  have F15 := fun_mk (st := s__law_take) l15 c15 k15
  have b15 := F15.binds (ps := ["_law_source_here", "_law_many"]) fun _ _ _ _ _ _ us hl => match us, hl with | [_, _], _ => rfl
  have F16 := fun_mk (st := s__law_word) l16 c16 k16
  have b16 := F16.binds (ps := ["_law_source_here", "_law_size"]) fun _ _ _ _ _ _ us hl => match us, hl with | [_, _], _ => rfl
  have F17 := fun_mk (st := s__law_names) l17 c17 k17
  have b17 := F17.binds (ps := ["_law_source_here", "_law_many"]) fun _ _ _ _ _ _ us hl => match us, hl with | [_, _], _ => rfl
  have F18 := fun_mk (st := s__law_flip) l18 c18 k18
  have b18 := F18.binds (ps := ["_law_literal"]) fun _ _ _ _ _ _ us hl => match us, hl with | [_], _ => rfl
  have F19 := fun_mk (st := s__law_name) l19 c19 k19
  have b19 := F19.binds (ps := ["_law_literal"]) fun _ _ _ _ _ _ us hl => match us, hl with | [_], _ => rfl
  have F20 := fun_mk (st := s__law_sorted) l20 c20 k20
  have b20 := F20.binds (ps := ["_law_names_here"]) fun _ _ _ _ _ _ us hl => match us, hl with | [_], _ => rfl
  have F21 := fun_mk (st := s__law_ordered) l21 c21 k21
  have b21 := F21.binds (ps := ["_law_literals"]) fun _ _ _ _ _ _ us hl => match us, hl with | [_], _ => rfl
  have F22 := fun_mk (st := s__law_same) l22 c22 k22
  have b22 := F22.binds (ps := ["_law_one", "_law_other"]) fun _ _ _ _ _ _ us hl => match us, hl with | [_, _], _ => rfl
  have F23 := fun_mk (st := s__law_row) l23 c23 k23
  have b23 := F23.binds (ps := ["_law_source_here", "_law_names_here", "_law_most"]) fun _ _ _ _ _ _ us hl => match us, hl with | [_, _, _], _ => rfl
  have F24 := fun_mk (st := s__law_clause) l24 c24 k24
  have b24 := F24.binds (ps := ["_law_row_here"]) fun _ _ _ _ _ _ us hl => match us, hl with | [_], _ => rfl
  have F25 := fun_mk (st := s__law_bad) l25 c25 k25
  have b25 := F25.binds (ps := ["_law_source_here", "_law_name_here"]) fun _ _ _ _ _ _ us hl => match us, hl with | [_, _], _ => rfl
  have F26 := fun_mk (st := s__law_sign) l26 c26 k26
  have b26 := F26.binds (ps := ["_law_source_here"]) fun _ _ _ _ _ _ us hl => match us, hl with | [_], _ => rfl
  have F27 := fun_mk (st := s__law_is_name) l27 c27 k27
  have b27 := F27.binds (ps := ["_law_text_here"]) fun _ _ _ _ _ _ us hl => match us, hl with | [_], _ => rfl
  have F28 := fun_mk (st := s__law_row_of) l28 c28 k28
  have b28 := F28.binds (ps := ["_law_text_here"]) fun _ _ _ _ _ _ us hl => match us, hl with | [_], _ => rfl
  have F29 := fun_mk (st := s__law_changed) l29 c29 k29
  have b29 := F29.binds (ps := ["_law_source_here", "_law_text_here", "_law_at"]) fun _ _ _ _ _ _ us hl => match us, hl with | [_, _, _], _ => rfl
  have F30 := fun_mk (st := s__law_spaced) l30 c30 k30
  have b30 := F30.binds (ps := ["_law_source_here", "_law_text_here"]) fun _ _ _ _ _ _ us hl => match us, hl with | [_, _], _ => rfl
  have F31 := fun_mk (st := s__law_text) l31 c31 k31
  have b31 := F31.binds (ps := ["_law_source_here", "_law_names_here"]) fun _ _ _ _ _ _ us hl => match us, hl with | [_, _], _ => rfl
  have F32 := fun_mk (st := s__law_refused) l32 c32 k32
  have b32 := F32.binds (ps := ["_law_text_here"]) fun _ _ _ _ _ _ us hl => match us, hl with | [_], _ => rfl
  have F33 := fun_mk (st := s_law) l33 c33 k33
  have b33 := F33.binds (ps := ["_law_script"]) fun _ _ _ _ _ _ us hl => match us, hl with | [_], _ => rfl
  have E_BadLiteral : Cls1 l.prog K mg "BadLiteral" C_BadLiteral i_BadLiteral ea_BadLiteral eb_BadLiteral (scope1 "text") := { gC := PySem.W.mg_of X G eg1, cls := ⟨n_1, q_1, N_1, bs_1, bm_1, sn_1, sub_1, ab_1, col_1, dd_1, w0_1, w1_1, w2_1, w3_1, w5_1, el1, er1⟩, sa := esa1, ga := ega1, gg := egg1, iC := ein1, tC := eti1, kC := ekc1, exC := ebe1, veC := eve1, tyC := ety1, hdC := ehd1, te := exm_self ebe1 eic1 ety1 ess1, up := eup1, self := emr1, op := zop, noS := PySem.W.mg_none_of X G zsu, fn := ⟨oce_1, ode_1, dce_1, pme_1, ane_1, cda1, cc1, cte_1, sle_1, ccl_1, cl_1, cdd_1, cld_1, vs_1, ccs_1, csl_1, file_1, tf_1, elf1, ecd1, elc1, evs1, efi1, ece1⟩, noM := znm }
  have X_BadLiteral : ExcC K C_BadLiteral := ⟨ega1, egg1, ebe1, ehd1, ecl1, zsp, ztk, emo1⟩
  have E_BadText : Cls1 l.prog K mg "BadText" C_BadText i_BadText ea_BadText eb_BadText (scope1 "line") := { gC := PySem.W.mg_of X G eg2, cls := ⟨n_2, q_2, N_2, bs_2, bm_2, sn_2, sub_2, ab_2, col_2, dd_2, w0_2, w1_2, w2_2, w3_2, w5_2, el2, er2⟩, sa := esa2, ga := ega2, gg := egg2, iC := ein2, tC := eti2, kC := ekc2, exC := ebe2, veC := eve2, tyC := ety2, hdC := ehd2, te := exm_self ebe2 eic2 ety2 ess2, up := eup2, self := emr2, op := zop, noS := PySem.W.mg_none_of X G zsu, fn := ⟨oce_2, ode_2, dce_2, pme_2, ane_2, cda2, cc2, cte_2, sle_2, ccl_2, cl_2, cdd_2, cld_2, vs_2, ccs_2, csl_2, file_2, tf_2, elf2, ecd2, elc2, evs2, efi2, ece2⟩, noM := znm }
  have X_BadText : ExcC K C_BadText := ⟨ega2, egg2, ebe2, ehd2, ecl2, zsp, ztk, emo2⟩
  have E_BothSigns : Cls1 l.prog K mg "BothSigns" C_BothSigns i_BothSigns ea_BothSigns eb_BothSigns (scope1 "name") := { gC := PySem.W.mg_of X G eg3, cls := ⟨n_3, q_3, N_3, bs_3, bm_3, sn_3, sub_3, ab_3, col_3, dd_3, w0_3, w1_3, w2_3, w3_3, w5_3, el3, er3⟩, sa := esa3, ga := ega3, gg := egg3, iC := ein3, tC := eti3, kC := ekc3, exC := ebe3, veC := eve3, tyC := ety3, hdC := ehd3, te := exm_self ebe3 eic3 ety3 ess3, up := eup3, self := emr3, op := zop, noS := PySem.W.mg_none_of X G zsu, fn := ⟨oce_3, ode_3, dce_3, pme_3, ane_3, cda3, cc3, cte_3, sle_3, ccl_3, cl_3, cdd_3, cld_3, vs_3, ccs_3, csl_3, file_3, tf_3, elf3, ecd3, elc3, evs3, efi3, ece3⟩, noM := znm }
  have X_BothSigns : ExcC K C_BothSigns := ⟨ega3, egg3, ebe3, ehd3, ecl3, zsp, ztk, emo3⟩
  have E_TooMany : Cls1 l.prog K mg "TooMany" C_TooMany i_TooMany ea_TooMany eb_TooMany (scope1 "limit") := { gC := PySem.W.mg_of X G eg4, cls := ⟨n_4, q_4, N_4, bs_4, bm_4, sn_4, sub_4, ab_4, col_4, dd_4, w0_4, w1_4, w2_4, w3_4, w5_4, el4, er4⟩, sa := esa4, ga := ega4, gg := egg4, iC := ein4, tC := eti4, kC := ekc4, exC := ebe4, veC := eve4, tyC := ety4, hdC := ehd4, te := exm_self ebe4 eic4 ety4 ess4, up := eup4, self := emr4, op := zop, noS := PySem.W.mg_none_of X G zsu, fn := ⟨oce_4, ode_4, dce_4, pme_4, ane_4, cda4, cc4, cte_4, sle_4, ccl_4, cl_4, cdd_4, cld_4, vs_4, ccs_4, csl_4, file_4, tf_4, elf4, ecd4, elc4, evs4, efi4, ece4⟩, noM := znm }
  have X_TooMany : ExcC K C_TooMany := ⟨ega4, egg4, ebe4, ehd4, ecl4, zsp, ztk, emo4⟩
  let T : Txt l.prog K mg := { C_Clause := C_Clause, g_Clause := PySem.W.mg_of X G cg0, cl_Clause := cl0, mi_Clause := cmi0, kc_Clause := ckc0, ins_Clause := ⟨cl0, cha0, zsp, ztk, cmo0, cme0⟩, na_Clause_literals := cna0_0, om_Clause := om_Clause, kt_str_Clause := ckt0, R_Clause := ⟨cvr_Clause, cvg_Clause⟩, V_Clause_LIMIT := ⟨_, cvf_Clause_LIMIT, ⟨_, rfl⟩⟩, f_is_name := f0, d_is_name := _, F_is_name := F0, b_is_name := b0, g_is_name := PySem.W.mg_of X G a0, f_is_literal := f1, d_is_literal := _, F_is_literal := F1, b_is_literal := b1, g_is_literal := PySem.W.mg_of X G a1, f_check_literal := f2, d_check_literal := _, F_check_literal := F2, b_check_literal := b2, g_check_literal := PySem.W.mg_of X G a2, f_name_of := f3, d_name_of := _, F_name_of := F3, b_name_of := b3, g_name_of := PySem.W.mg_of X G a3, f_is_positive := f4, d_is_positive := _, F_is_positive := F4, b_is_positive := b4, g_is_positive := PySem.W.mg_of X G a4, f_negated := f5, d_negated := _, F_negated := F5, b_negated := b5, g_negated := PySem.W.mg_of X G a5, f_both_signs := f6, d_both_signs := _, F_both_signs := F6, b_both_signs := b6, g_both_signs := PySem.W.mg_of X G a6, f_in_order := f7, d_in_order := _, F_in_order := F7, b_in_order := b7, g_in_order := PySem.W.mg_of X G a7, f_check_signs := f8, d_check_signs := _, F_check_signs := F8, b_check_signs := b8, g_check_signs := PySem.W.mg_of X G a8, m_Clause_init := a9, i_Clause_init := if9, f_Clause_init := f9, d_Clause_init := _, F_Clause_init := F9, m_Clause_eq := a10, i_Clause_eq := if10, f_Clause_eq := f10, d_Clause_eq := _, F_Clause_eq := F10, b_Clause_eq := b10, m_Clause_str := a11, i_Clause_str := if11, f_Clause_str := f11, d_Clause_str := _, F_Clause_str := F11, b_Clause_str := b11, f__clause_in := f12, d__clause_in := _, F__clause_in := F12, b__clause_in := b12, g__clause_in := PySem.W.mg_of X G a12, f_read_clause := f13, d_read_clause := _, F_read_clause := F13, b_read_clause := b13, g_read_clause := PySem.W.mg_of X G a13, f__law_source := f14, d__law_source := _, F__law_source := F14, b__law_source := b14, g__law_source := PySem.W.mg_of X G a14, f__law_take := f15, d__law_take := _, F__law_take := F15, b__law_take := b15, g__law_take := PySem.W.mg_of X G a15, f__law_word := f16, d__law_word := _, F__law_word := F16, b__law_word := b16, g__law_word := PySem.W.mg_of X G a16, f__law_names := f17, d__law_names := _, F__law_names := F17, b__law_names := b17, g__law_names := PySem.W.mg_of X G a17, f__law_flip := f18, d__law_flip := _, F__law_flip := F18, b__law_flip := b18, g__law_flip := PySem.W.mg_of X G a18, f__law_name := f19, d__law_name := _, F__law_name := F19, b__law_name := b19, g__law_name := PySem.W.mg_of X G a19, f__law_sorted := f20, d__law_sorted := _, F__law_sorted := F20, b__law_sorted := b20, g__law_sorted := PySem.W.mg_of X G a20, f__law_ordered := f21, d__law_ordered := _, F__law_ordered := F21, b__law_ordered := b21, g__law_ordered := PySem.W.mg_of X G a21, f__law_same := f22, d__law_same := _, F__law_same := F22, b__law_same := b22, g__law_same := PySem.W.mg_of X G a22, f__law_row := f23, d__law_row := _, F__law_row := F23, b__law_row := b23, g__law_row := PySem.W.mg_of X G a23, f__law_clause := f24, d__law_clause := _, F__law_clause := F24, b__law_clause := b24, g__law_clause := PySem.W.mg_of X G a24, f__law_bad := f25, d__law_bad := _, F__law_bad := F25, b__law_bad := b25, g__law_bad := PySem.W.mg_of X G a25, f__law_sign := f26, d__law_sign := _, F__law_sign := F26, b__law_sign := b26, g__law_sign := PySem.W.mg_of X G a26, f__law_is_name := f27, d__law_is_name := _, F__law_is_name := F27, b__law_is_name := b27, g__law_is_name := PySem.W.mg_of X G a27, f__law_row_of := f28, d__law_row_of := _, F__law_row_of := F28, b__law_row_of := b28, g__law_row_of := PySem.W.mg_of X G a28, f__law_changed := f29, d__law_changed := _, F__law_changed := F29, b__law_changed := b29, g__law_changed := PySem.W.mg_of X G a29, f__law_spaced := f30, d__law_spaced := _, F__law_spaced := F30, b__law_spaced := b30, g__law_spaced := PySem.W.mg_of X G a30, f__law_text := f31, d__law_text := _, F__law_text := F31, b__law_text := b31, g__law_text := PySem.W.mg_of X G a31, f__law_refused := f32, d__law_refused := _, F__law_refused := F32, b__law_refused := b32, g__law_refused := PySem.W.mg_of X G a32, f_law := fa, d_law := _, F_law := F33, b_law := b33, g_law := PySem.W.mg_of X G a33, t_LETTERS := tk0, v_LETTERS := PySem.W.mg_of X G v0, t_LETTERS_AND_DIGITS := tk1, v_LETTERS_AND_DIGITS := PySem.W.mg_of X G v1, t_LONGEST_NAME := tk2, v_LONGEST_NAME := PySem.W.mg_of X G v2, C_HornError := C_HornError, g_HornError := PySem.W.mg_of X G eg0, C_BadLiteral := C_BadLiteral, i_BadLiteral := i_BadLiteral, E_BadLiteral := E_BadLiteral, x_BadLiteral := X_BadLiteral, o_BadLiteral := efn1, C_BadText := C_BadText, i_BadText := i_BadText, E_BadText := E_BadText, x_BadText := X_BadText, o_BadText := efn2, C_BothSigns := C_BothSigns, i_BothSigns := i_BothSigns, E_BothSigns := E_BothSigns, x_BothSigns := X_BothSigns, o_BothSigns := efn3, C_TooMany := C_TooMany, i_TooMany := i_TooMany, E_TooMany := E_TooMany, x_TooMany := X_TooMany, o_TooMany := efn4, k_BadLiteral_BadLiteral := ⟨_, kt0, rfl⟩, k_BadLiteral_BothSigns := ⟨_, kt1, rfl⟩, k_BadLiteral_HornError := ⟨_, kt2, rfl⟩, k_BadLiteral_TooMany := ⟨_, kt3, rfl⟩, k_BadLiteral_ValueError := ⟨_, kt4, rfl⟩, k_BadText_BadLiteral := ⟨_, kt5, rfl⟩, k_BadText_BothSigns := ⟨_, kt6, rfl⟩, k_BadText_HornError := ⟨_, kt7, rfl⟩, k_BadText_TooMany := ⟨_, kt8, rfl⟩, k_BadText_ValueError := ⟨_, kt9, rfl⟩, k_BothSigns_BadLiteral := ⟨_, kt10, rfl⟩, k_BothSigns_BothSigns := ⟨_, kt11, rfl⟩, k_BothSigns_HornError := ⟨_, kt12, rfl⟩, k_BothSigns_TooMany := ⟨_, kt13, rfl⟩, k_BothSigns_ValueError := ⟨_, kt14, rfl⟩, k_TooMany_BadLiteral := ⟨_, kt15, rfl⟩, k_TooMany_BothSigns := ⟨_, kt16, rfl⟩, k_TooMany_HornError := ⟨_, kt17, rfl⟩, k_TooMany_TooMany := ⟨_, kt18, rfl⟩, k_TooMany_ValueError := ⟨_, kt19, rfl⟩, su_BothSigns_BadLiteral := sun_BothSigns_BadLiteral, su_TooMany_BadLiteral := sun_TooMany_BadLiteral, su_TooMany_BothSigns := sun_TooMany_BothSigns, su_BadLiteral_BothSigns := sun_BadLiteral_BothSigns, su_BadLiteral_TooMany := sun_BadLiteral_TooMany, su_BothSigns_TooMany := sun_BothSigns_TooMany, n_NotImplemented := PySem.W.mg_none_of X G z0, n_ValueError := PySem.W.mg_none_of X G z1, n_all := PySem.W.mg_none_of X G z2, n_any := PySem.W.mg_none_of X G z3, n_bool := PySem.W.mg_none_of X G z4, n_int := PySem.W.mg_none_of X G z5, n_isinstance := PySem.W.mg_none_of X G z6, n_iter := PySem.W.mg_none_of X G z7, n_len := PySem.W.mg_none_of X G z8, n_list := PySem.W.mg_none_of X G z9, n_property := PySem.W.mg_none_of X G z10, n_range := PySem.W.mg_none_of X G z11, n_set := PySem.W.mg_none_of X G z12, n_sorted := PySem.W.mg_none_of X G z13, n_str := PySem.W.mg_none_of X G z14, n_super := PySem.W.mg_none_of X G zsu, n_tuple := PySem.W.mg_none_of X G z16 }
  exact ⟨PySem.W.fnOf "law" "law" (defArgs s_law) (defBody s_law) (defScope s_law) .none kV33 dc33 pm33 an33 cd33 ct33, fun s v => .of_eq rfl, fun base _ _ => ok_law T⟩
section
open PySem PySem.W PySem.Calls
abbrev HKR : OpenRow := OpenLaw.row PySem.Challenge.rw_renamedhorn_k19_clause_texts_read
def hchk0 (K : PySem.W.Frag) : Bool := (decide (PySem.W.nsIn K mainGlobals "Clause" = some (some (.ref (He.ga K "Clause"))))) && ((PySem.W.plainGet K (He.ga K "Clause") Str.empty) && ((PySem.W.hasDictIn K (He.ga K "Clause")) && ((PySem.W.plainOver K (He.ga K "Clause")) && ((decide (PySem.W.findIn K (.ref (He.ga K "Clause")) "__setattr__" = some (some (.builtin "object.__setattr__")))) && ((PySem.W.makesIn K (He.ga K "Clause")) && ((PySem.W.keepIn K (.ref (He.ga K "Clause"))) && ((decide (PySem.W.findIn K (.ref (He.ga K "Clause")) "__class__" = some (some (.builtin "object.__class__")))) && ((decide (PySem.W.mroIn K (He.ga K "Clause") (.type "object") = some true)) && ((decide (PySem.W.kitOne K (.ref (He.ga K "Clause")) (.ref (He.ga K "Clause")) = some true)) && ((decide (PySem.W.findIn K (.ref (He.ga K "Clause")) "literals" = some none)) && ((mro2 K (He.ga K "Clause")) && ((decide (PySem.W.kitOne K (.type "str") (.ref (He.ga K "Clause")) = some false)) && ((PySem.W.readsIn K (He.ga K "Clause") (.type "type")) && ((decide (PySem.W.specialIn K (.ref (He.ga K "Clause")) "__getattribute__" = some (some (.builtin "type.__getattribute__")))) && ((Hk.ib K (He.ga K "Clause") "LIMIT" 6) && ((decide (PySem.W.nsIn K mainGlobals "is_name" = some (some (.ref (He.ga K "is_name"))))) && ((Hk.fb K (He.ga K "is_name") "is_name") && ((PySem.W.keepIn K (.ref (He.ga K "is_name"))) && ((decide (PySem.W.nsIn K mainGlobals "is_literal" = some (some (.ref (He.ga K "is_literal"))))) && ((Hk.fb K (He.ga K "is_literal") "is_literal") && ((PySem.W.keepIn K (.ref (He.ga K "is_literal"))) && ((decide (PySem.W.nsIn K mainGlobals "check_literal" = some (some (.ref (He.ga K "check_literal"))))) && ((Hk.fb K (He.ga K "check_literal") "check_literal") && (PySem.W.keepIn K (.ref (He.ga K "check_literal"))))))))))))))))))))))))))
def hchk1 (K : PySem.W.Frag) : Bool := (decide (PySem.W.nsIn K mainGlobals "name_of" = some (some (.ref (He.ga K "name_of"))))) && ((Hk.fb K (He.ga K "name_of") "name_of") && ((PySem.W.keepIn K (.ref (He.ga K "name_of"))) && ((decide (PySem.W.nsIn K mainGlobals "is_positive" = some (some (.ref (He.ga K "is_positive"))))) && ((Hk.fb K (He.ga K "is_positive") "is_positive") && ((PySem.W.keepIn K (.ref (He.ga K "is_positive"))) && ((decide (PySem.W.nsIn K mainGlobals "negated" = some (some (.ref (He.ga K "negated"))))) && ((Hk.fb K (He.ga K "negated") "negated") && ((PySem.W.keepIn K (.ref (He.ga K "negated"))) && ((decide (PySem.W.nsIn K mainGlobals "both_signs" = some (some (.ref (He.ga K "both_signs"))))) && ((Hk.fb K (He.ga K "both_signs") "both_signs") && ((PySem.W.keepIn K (.ref (He.ga K "both_signs"))) && ((decide (PySem.W.nsIn K mainGlobals "in_order" = some (some (.ref (He.ga K "in_order"))))) && ((Hk.fb K (He.ga K "in_order") "in_order") && ((PySem.W.keepIn K (.ref (He.ga K "in_order"))) && ((decide (PySem.W.nsIn K mainGlobals "check_signs" = some (some (.ref (He.ga K "check_signs"))))) && ((Hk.fb K (He.ga K "check_signs") "check_signs") && ((PySem.W.keepIn K (.ref (He.ga K "check_signs"))) && ((decide (PySem.W.findIn K (.ref (He.ga K "Clause")) "__init__" = some (some (.ref (He.ma K (He.ga K "Clause") "__init__"))))) && ((Hk.fb K (He.ma K (He.ga K "Clause") "__init__") "Clause.__init__") && ((PySem.W.isFn K (.ref (He.ma K (He.ga K "Clause") "__init__"))) && ((PySem.W.keepIn K (.ref (He.ma K (He.ga K "Clause") "__init__"))) && ((decide (PySem.W.findIn K (.ref (He.ga K "Clause")) "__eq__" = some (some (.ref (He.ma K (He.ga K "Clause") "__eq__"))))) && ((Hk.fb K (He.ma K (He.ga K "Clause") "__eq__") "Clause.__eq__") && (PySem.W.isFn K (.ref (He.ma K (He.ga K "Clause") "__eq__"))))))))))))))))))))))))))
def hchk2 (K : PySem.W.Frag) : Bool := (PySem.W.keepIn K (.ref (He.ma K (He.ga K "Clause") "__eq__"))) && ((decide (PySem.W.findIn K (.ref (He.ga K "Clause")) "__str__" = some (some (.ref (He.ma K (He.ga K "Clause") "__str__"))))) && ((Hk.fb K (He.ma K (He.ga K "Clause") "__str__") "Clause.__str__") && ((PySem.W.isFn K (.ref (He.ma K (He.ga K "Clause") "__str__"))) && ((PySem.W.keepIn K (.ref (He.ma K (He.ga K "Clause") "__str__"))) && ((decide (PySem.W.nsIn K mainGlobals "_clause_in" = some (some (.ref (He.ga K "_clause_in"))))) && ((Hk.fb K (He.ga K "_clause_in") "_clause_in") && ((PySem.W.keepIn K (.ref (He.ga K "_clause_in"))) && ((decide (PySem.W.nsIn K mainGlobals "read_clause" = some (some (.ref (He.ga K "read_clause"))))) && ((Hk.fb K (He.ga K "read_clause") "read_clause") && ((PySem.W.keepIn K (.ref (He.ga K "read_clause"))) && ((decide (PySem.W.nsIn K mainGlobals "_law_source" = some (some (.ref (He.ga K "_law_source"))))) && ((Hk.fb K (He.ga K "_law_source") "_law_source") && ((PySem.W.keepIn K (.ref (He.ga K "_law_source"))) && ((decide (PySem.W.nsIn K mainGlobals "_law_take" = some (some (.ref (He.ga K "_law_take"))))) && ((Hk.fb K (He.ga K "_law_take") "_law_take") && ((PySem.W.keepIn K (.ref (He.ga K "_law_take"))) && ((decide (PySem.W.nsIn K mainGlobals "_law_word" = some (some (.ref (He.ga K "_law_word"))))) && ((Hk.fb K (He.ga K "_law_word") "_law_word") && ((PySem.W.keepIn K (.ref (He.ga K "_law_word"))) && ((decide (PySem.W.nsIn K mainGlobals "_law_names" = some (some (.ref (He.ga K "_law_names"))))) && ((Hk.fb K (He.ga K "_law_names") "_law_names") && ((PySem.W.keepIn K (.ref (He.ga K "_law_names"))) && ((decide (PySem.W.nsIn K mainGlobals "_law_flip" = some (some (.ref (He.ga K "_law_flip"))))) && (Hk.fb K (He.ga K "_law_flip") "_law_flip"))))))))))))))))))))))))
def hchk3 (K : PySem.W.Frag) : Bool := (PySem.W.keepIn K (.ref (He.ga K "_law_flip"))) && ((decide (PySem.W.nsIn K mainGlobals "_law_name" = some (some (.ref (He.ga K "_law_name"))))) && ((Hk.fb K (He.ga K "_law_name") "_law_name") && ((PySem.W.keepIn K (.ref (He.ga K "_law_name"))) && ((decide (PySem.W.nsIn K mainGlobals "_law_sorted" = some (some (.ref (He.ga K "_law_sorted"))))) && ((Hk.fb K (He.ga K "_law_sorted") "_law_sorted") && ((PySem.W.keepIn K (.ref (He.ga K "_law_sorted"))) && ((decide (PySem.W.nsIn K mainGlobals "_law_ordered" = some (some (.ref (He.ga K "_law_ordered"))))) && ((Hk.fb K (He.ga K "_law_ordered") "_law_ordered") && ((PySem.W.keepIn K (.ref (He.ga K "_law_ordered"))) && ((decide (PySem.W.nsIn K mainGlobals "_law_same" = some (some (.ref (He.ga K "_law_same"))))) && ((Hk.fb K (He.ga K "_law_same") "_law_same") && ((PySem.W.keepIn K (.ref (He.ga K "_law_same"))) && ((decide (PySem.W.nsIn K mainGlobals "_law_row" = some (some (.ref (He.ga K "_law_row"))))) && ((Hk.fb K (He.ga K "_law_row") "_law_row") && ((PySem.W.keepIn K (.ref (He.ga K "_law_row"))) && ((decide (PySem.W.nsIn K mainGlobals "_law_clause" = some (some (.ref (He.ga K "_law_clause"))))) && ((Hk.fb K (He.ga K "_law_clause") "_law_clause") && ((PySem.W.keepIn K (.ref (He.ga K "_law_clause"))) && ((decide (PySem.W.nsIn K mainGlobals "_law_bad" = some (some (.ref (He.ga K "_law_bad"))))) && ((Hk.fb K (He.ga K "_law_bad") "_law_bad") && ((PySem.W.keepIn K (.ref (He.ga K "_law_bad"))) && ((decide (PySem.W.nsIn K mainGlobals "_law_sign" = some (some (.ref (He.ga K "_law_sign"))))) && ((Hk.fb K (He.ga K "_law_sign") "_law_sign") && (PySem.W.keepIn K (.ref (He.ga K "_law_sign"))))))))))))))))))))))))))
def hchk4 (K : PySem.W.Frag) : Bool := (decide (PySem.W.nsIn K mainGlobals "_law_is_name" = some (some (.ref (He.ga K "_law_is_name"))))) && ((Hk.fb K (He.ga K "_law_is_name") "_law_is_name") && ((PySem.W.keepIn K (.ref (He.ga K "_law_is_name"))) && ((decide (PySem.W.nsIn K mainGlobals "_law_row_of" = some (some (.ref (He.ga K "_law_row_of"))))) && ((Hk.fb K (He.ga K "_law_row_of") "_law_row_of") && ((PySem.W.keepIn K (.ref (He.ga K "_law_row_of"))) && ((decide (PySem.W.nsIn K mainGlobals "_law_changed" = some (some (.ref (He.ga K "_law_changed"))))) && ((Hk.fb K (He.ga K "_law_changed") "_law_changed") && ((PySem.W.keepIn K (.ref (He.ga K "_law_changed"))) && ((decide (PySem.W.nsIn K mainGlobals "_law_spaced" = some (some (.ref (He.ga K "_law_spaced"))))) && ((Hk.fb K (He.ga K "_law_spaced") "_law_spaced") && ((PySem.W.keepIn K (.ref (He.ga K "_law_spaced"))) && ((decide (PySem.W.nsIn K mainGlobals "_law_text" = some (some (.ref (He.ga K "_law_text"))))) && ((Hk.fb K (He.ga K "_law_text") "_law_text") && ((PySem.W.keepIn K (.ref (He.ga K "_law_text"))) && ((decide (PySem.W.nsIn K mainGlobals "_law_refused" = some (some (.ref (He.ga K "_law_refused"))))) && ((Hk.fb K (He.ga K "_law_refused") "_law_refused") && ((PySem.W.keepIn K (.ref (He.ga K "_law_refused"))) && ((decide (PySem.W.nsIn K mainGlobals "law" = some (some (.ref (He.ga K "law"))))) && ((Hk.fb K (He.ga K "law") "law") && ((PySem.W.keepIn K (.ref (He.ga K "law"))) && ((Hk.sb K "LETTERS" "abcdefghijklmnopqrstuvwxyz") && ((Hk.sb K "LETTERS_AND_DIGITS" "abcdefghijklmnopqrstuvwxyz0123456789") && ((Hk.nb K "LONGEST_NAME" 8) && (decide (PySem.W.nsIn K mainGlobals "HornError" = some (some (.ref (He.ga K "HornError"))))))))))))))))))))))))))))
def hchk5 (K : PySem.W.Frag) : Bool := (decide (PySem.W.nsIn K mainGlobals "BadLiteral" = some (some (.ref (He.ga K "BadLiteral"))))) && ((Hk.eb K (He.ga K "BadLiteral")) && ((decide (PySem.W.findIn K (.ref (He.ga K "BadLiteral")) "__setattr__" = some (some (.builtin "object.__setattr__")))) && ((decide (PySem.W.findIn K (.ref (He.ga K "BadLiteral")) "__getattribute__" = some (some (.builtin "BaseException.__getattribute__")))) && ((decide (PySem.W.findIn K (.ref (He.ga K "BadLiteral")) "__getattr__" = some none)) && ((decide (PySem.W.findIn K (.ref (He.ga K "BadLiteral")) "__init__" = some (some (.ref (He.ma K (He.ga K "BadLiteral") "__init__"))))) && ((decide (PySem.W.findIn K (.ref (He.ga K "BadLiteral")) "__class__" = some (some (.builtin "object.__class__")))) && ((decide (PySem.W.findIn K (.ref (He.ga K "BadLiteral")) "text" = some none)) && ((decide (PySem.W.typeIn K (.ref (He.ma K (He.ga K "BadLiteral") "__init__")) = some (.type "function"))) && ((PySem.W.keepIn K (.ref (He.ga K "BadLiteral"))) && ((decide (PySem.W.subIn K (.ref (He.ga K "BadLiteral")) (.type "BaseException") = some true)) && ((decide (PySem.W.subIn K (.ref (He.ga K "BadLiteral")) (.type "ValueError") = some true)) && ((decide (PySem.W.typeIn K (.ref (He.ga K "BadLiteral")) = some (.type "type"))) && ((PySem.W.hasDictIn K (He.ga K "BadLiteral")) && ((PySem.W.isClsIn K (He.ga K "BadLiteral")) && ((decide (PySem.W.subIn K (.ref (He.ga K "BadLiteral")) (.ref (He.ga K "BadLiteral")) = some true)) && ((decide (PySem.W.ks_superIn K (He.ga K "BadLiteral") (He.ga K "BadLiteral") "__init__" = some (some (.builtin "ValueError.__init__")))) && ((decide (PySem.W.mroIn K (He.ga K "BadLiteral") (.ref (He.ga K "BadLiteral")) = some true)) && ((decide (PySem.W.mroIn K (He.ga K "BadLiteral") (.type "object") = some true)) && ((Hk.eib K (He.ma K (He.ga K "BadLiteral") "__init__") (He.ga K "BadLiteral") ("BadLiteral" ++ ".__init__") HKR.prog.main.file) && ((decide (PySem.W.nsIn K mainGlobals "BadText" = some (some (.ref (He.ga K "BadText"))))) && ((Hk.eb K (He.ga K "BadText")) && ((decide (PySem.W.findIn K (.ref (He.ga K "BadText")) "__setattr__" = some (some (.builtin "object.__setattr__")))) && ((decide (PySem.W.findIn K (.ref (He.ga K "BadText")) "__getattribute__" = some (some (.builtin "BaseException.__getattribute__")))) && (decide (PySem.W.findIn K (.ref (He.ga K "BadText")) "__getattr__" = some none)))))))))))))))))))))))))
def hchk6 (K : PySem.W.Frag) : Bool := (decide (PySem.W.findIn K (.ref (He.ga K "BadText")) "__init__" = some (some (.ref (He.ma K (He.ga K "BadText") "__init__"))))) && ((decide (PySem.W.findIn K (.ref (He.ga K "BadText")) "__class__" = some (some (.builtin "object.__class__")))) && ((decide (PySem.W.findIn K (.ref (He.ga K "BadText")) "line" = some none)) && ((decide (PySem.W.typeIn K (.ref (He.ma K (He.ga K "BadText") "__init__")) = some (.type "function"))) && ((PySem.W.keepIn K (.ref (He.ga K "BadText"))) && ((decide (PySem.W.subIn K (.ref (He.ga K "BadText")) (.type "BaseException") = some true)) && ((decide (PySem.W.subIn K (.ref (He.ga K "BadText")) (.type "ValueError") = some true)) && ((decide (PySem.W.typeIn K (.ref (He.ga K "BadText")) = some (.type "type"))) && ((PySem.W.hasDictIn K (He.ga K "BadText")) && ((PySem.W.isClsIn K (He.ga K "BadText")) && ((decide (PySem.W.subIn K (.ref (He.ga K "BadText")) (.ref (He.ga K "BadText")) = some true)) && ((decide (PySem.W.ks_superIn K (He.ga K "BadText") (He.ga K "BadText") "__init__" = some (some (.builtin "ValueError.__init__")))) && ((decide (PySem.W.mroIn K (He.ga K "BadText") (.ref (He.ga K "BadText")) = some true)) && ((decide (PySem.W.mroIn K (He.ga K "BadText") (.type "object") = some true)) && ((Hk.eib K (He.ma K (He.ga K "BadText") "__init__") (He.ga K "BadText") ("BadText" ++ ".__init__") HKR.prog.main.file) && ((decide (PySem.W.nsIn K mainGlobals "BothSigns" = some (some (.ref (He.ga K "BothSigns"))))) && ((Hk.eb K (He.ga K "BothSigns")) && ((decide (PySem.W.findIn K (.ref (He.ga K "BothSigns")) "__setattr__" = some (some (.builtin "object.__setattr__")))) && ((decide (PySem.W.findIn K (.ref (He.ga K "BothSigns")) "__getattribute__" = some (some (.builtin "BaseException.__getattribute__")))) && ((decide (PySem.W.findIn K (.ref (He.ga K "BothSigns")) "__getattr__" = some none)) && ((decide (PySem.W.findIn K (.ref (He.ga K "BothSigns")) "__init__" = some (some (.ref (He.ma K (He.ga K "BothSigns") "__init__"))))) && ((decide (PySem.W.findIn K (.ref (He.ga K "BothSigns")) "__class__" = some (some (.builtin "object.__class__")))) && ((decide (PySem.W.findIn K (.ref (He.ga K "BothSigns")) "name" = some none)) && ((decide (PySem.W.typeIn K (.ref (He.ma K (He.ga K "BothSigns") "__init__")) = some (.type "function"))) && (PySem.W.keepIn K (.ref (He.ga K "BothSigns"))))))))))))))))))))))))))
def hchk7 (K : PySem.W.Frag) : Bool := (decide (PySem.W.subIn K (.ref (He.ga K "BothSigns")) (.type "BaseException") = some true)) && ((decide (PySem.W.subIn K (.ref (He.ga K "BothSigns")) (.type "ValueError") = some true)) && ((decide (PySem.W.typeIn K (.ref (He.ga K "BothSigns")) = some (.type "type"))) && ((PySem.W.hasDictIn K (He.ga K "BothSigns")) && ((PySem.W.isClsIn K (He.ga K "BothSigns")) && ((decide (PySem.W.subIn K (.ref (He.ga K "BothSigns")) (.ref (He.ga K "BothSigns")) = some true)) && ((decide (PySem.W.ks_superIn K (He.ga K "BothSigns") (He.ga K "BothSigns") "__init__" = some (some (.builtin "ValueError.__init__")))) && ((decide (PySem.W.mroIn K (He.ga K "BothSigns") (.ref (He.ga K "BothSigns")) = some true)) && ((decide (PySem.W.mroIn K (He.ga K "BothSigns") (.type "object") = some true)) && ((Hk.eib K (He.ma K (He.ga K "BothSigns") "__init__") (He.ga K "BothSigns") ("BothSigns" ++ ".__init__") HKR.prog.main.file) && ((decide (PySem.W.nsIn K mainGlobals "TooMany" = some (some (.ref (He.ga K "TooMany"))))) && ((Hk.eb K (He.ga K "TooMany")) && ((decide (PySem.W.findIn K (.ref (He.ga K "TooMany")) "__setattr__" = some (some (.builtin "object.__setattr__")))) && ((decide (PySem.W.findIn K (.ref (He.ga K "TooMany")) "__getattribute__" = some (some (.builtin "BaseException.__getattribute__")))) && ((decide (PySem.W.findIn K (.ref (He.ga K "TooMany")) "__getattr__" = some none)) && ((decide (PySem.W.findIn K (.ref (He.ga K "TooMany")) "__init__" = some (some (.ref (He.ma K (He.ga K "TooMany") "__init__"))))) && ((decide (PySem.W.findIn K (.ref (He.ga K "TooMany")) "__class__" = some (some (.builtin "object.__class__")))) && ((decide (PySem.W.findIn K (.ref (He.ga K "TooMany")) "limit" = some none)) && ((decide (PySem.W.typeIn K (.ref (He.ma K (He.ga K "TooMany") "__init__")) = some (.type "function"))) && ((PySem.W.keepIn K (.ref (He.ga K "TooMany"))) && ((decide (PySem.W.subIn K (.ref (He.ga K "TooMany")) (.type "BaseException") = some true)) && ((decide (PySem.W.subIn K (.ref (He.ga K "TooMany")) (.type "ValueError") = some true)) && ((decide (PySem.W.typeIn K (.ref (He.ga K "TooMany")) = some (.type "type"))) && ((PySem.W.hasDictIn K (He.ga K "TooMany")) && (PySem.W.isClsIn K (He.ga K "TooMany")))))))))))))))))))))))))
def hchk8 (K : PySem.W.Frag) : Bool := (decide (PySem.W.subIn K (.ref (He.ga K "TooMany")) (.ref (He.ga K "TooMany")) = some true)) && ((decide (PySem.W.ks_superIn K (He.ga K "TooMany") (He.ga K "TooMany") "__init__" = some (some (.builtin "ValueError.__init__")))) && ((decide (PySem.W.mroIn K (He.ga K "TooMany") (.ref (He.ga K "TooMany")) = some true)) && ((decide (PySem.W.mroIn K (He.ga K "TooMany") (.type "object") = some true)) && ((Hk.eib K (He.ma K (He.ga K "TooMany") "__init__") (He.ga K "TooMany") ("TooMany" ++ ".__init__") HKR.prog.main.file) && ((decide (PySem.W.kitOne K (.ref (He.ga K "BadLiteral")) (.ref (He.ga K "BadLiteral")) = some true)) && ((decide (PySem.W.kitOne K (.ref (He.ga K "BadLiteral")) (.ref (He.ga K "BothSigns")) = some false)) && ((decide (PySem.W.kitOne K (.ref (He.ga K "BadLiteral")) (.ref (He.ga K "HornError")) = some true)) && ((decide (PySem.W.kitOne K (.ref (He.ga K "BadLiteral")) (.ref (He.ga K "TooMany")) = some false)) && ((decide (PySem.W.kitOne K (.ref (He.ga K "BadLiteral")) (.type "ValueError") = some true)) && ((decide (PySem.W.kitOne K (.ref (He.ga K "BadText")) (.ref (He.ga K "BadLiteral")) = some false)) && ((decide (PySem.W.kitOne K (.ref (He.ga K "BadText")) (.ref (He.ga K "BothSigns")) = some false)) && ((decide (PySem.W.kitOne K (.ref (He.ga K "BadText")) (.ref (He.ga K "HornError")) = some true)) && ((decide (PySem.W.kitOne K (.ref (He.ga K "BadText")) (.ref (He.ga K "TooMany")) = some false)) && ((decide (PySem.W.kitOne K (.ref (He.ga K "BadText")) (.type "ValueError") = some true)) && ((decide (PySem.W.kitOne K (.ref (He.ga K "BothSigns")) (.ref (He.ga K "BadLiteral")) = some false)) && ((decide (PySem.W.kitOne K (.ref (He.ga K "BothSigns")) (.ref (He.ga K "BothSigns")) = some true)) && ((decide (PySem.W.kitOne K (.ref (He.ga K "BothSigns")) (.ref (He.ga K "HornError")) = some true)) && ((decide (PySem.W.kitOne K (.ref (He.ga K "BothSigns")) (.ref (He.ga K "TooMany")) = some false)) && ((decide (PySem.W.kitOne K (.ref (He.ga K "BothSigns")) (.type "ValueError") = some true)) && ((decide (PySem.W.kitOne K (.ref (He.ga K "TooMany")) (.ref (He.ga K "BadLiteral")) = some false)) && ((decide (PySem.W.kitOne K (.ref (He.ga K "TooMany")) (.ref (He.ga K "BothSigns")) = some false)) && ((decide (PySem.W.kitOne K (.ref (He.ga K "TooMany")) (.ref (He.ga K "HornError")) = some true)) && ((decide (PySem.W.kitOne K (.ref (He.ga K "TooMany")) (.ref (He.ga K "TooMany")) = some true)) && (decide (PySem.W.kitOne K (.ref (He.ga K "TooMany")) (.type "ValueError") = some true)))))))))))))))))))))))))
def hchk9 (K : PySem.W.Frag) : Bool := (decide (PySem.W.subIn K (.ref (He.ga K "BothSigns")) (.ref (He.ga K "BadLiteral")) = some false)) && ((decide (PySem.W.subIn K (.ref (He.ga K "TooMany")) (.ref (He.ga K "BadLiteral")) = some false)) && ((decide (PySem.W.subIn K (.ref (He.ga K "TooMany")) (.ref (He.ga K "BothSigns")) = some false)) && ((decide (PySem.W.subIn K (.ref (He.ga K "BadLiteral")) (.ref (He.ga K "BothSigns")) = some false)) && ((decide (PySem.W.subIn K (.ref (He.ga K "BadLiteral")) (.ref (He.ga K "TooMany")) = some false)) && ((decide (PySem.W.subIn K (.ref (He.ga K "BothSigns")) (.ref (He.ga K "TooMany")) = some false)) && ((decide (PySem.W.nsIn K mainGlobals "NotImplemented" = some none)) && ((decide (PySem.W.nsIn K mainGlobals "ValueError" = some none)) && ((decide (PySem.W.nsIn K mainGlobals "all" = some none)) && ((decide (PySem.W.nsIn K mainGlobals "any" = some none)) && ((decide (PySem.W.nsIn K mainGlobals "bool" = some none)) && ((decide (PySem.W.nsIn K mainGlobals "int" = some none)) && ((decide (PySem.W.nsIn K mainGlobals "isinstance" = some none)) && ((decide (PySem.W.nsIn K mainGlobals "iter" = some none)) && ((decide (PySem.W.nsIn K mainGlobals "len" = some none)) && ((decide (PySem.W.nsIn K mainGlobals "list" = some none)) && ((decide (PySem.W.nsIn K mainGlobals "property" = some none)) && ((decide (PySem.W.nsIn K mainGlobals "range" = some none)) && ((decide (PySem.W.nsIn K mainGlobals "set" = some none)) && ((decide (PySem.W.nsIn K mainGlobals "sorted" = some none)) && ((decide (PySem.W.nsIn K mainGlobals "str" = some none)) && ((decide (PySem.W.nsIn K mainGlobals "super" = some none)) && ((decide (PySem.W.nsIn K mainGlobals "tuple" = some none)) && ((decide (PySem.W.nsIn K cStatics "thirdparty.any" = some none)) && (decide (PySem.W.specialIn K (.builtin "object.__class__") "__get__" = some (some (.builtin "getset_descriptor.__get__")))))))))))))))))))))))))))
def hchk10 (K : PySem.W.Frag) : Bool := decide (PySem.W.takesIn K (.builtin "object.__class__") = some true)
def hex (K : PySem.W.Frag) : Bool := (hchk0 K) && ((hchk1 K) && ((hchk2 K) && ((hchk3 K) && ((hchk4 K) && ((hchk5 K) && ((hchk6 K) && ((hchk7 K) && ((hchk8 K) && ((hchk9 K) && (hchk10 K))))))))))
def hats0 (K : PySem.W.Frag) : List Addr := [(He.ga K "is_name"), (He.ga K "is_literal"), (He.ga K "check_literal"), (He.ga K "name_of"), (He.ga K "is_positive"), (He.ga K "negated"), (He.ga K "both_signs"), (He.ga K "in_order"), (He.ga K "check_signs"), (He.ma K (He.ga K "Clause") "__init__"), (He.ma K (He.ga K "Clause") "__eq__"), (He.ma K (He.ga K "Clause") "__str__"), (He.ga K "_clause_in"), (He.ga K "read_clause"), (He.ga K "_law_source"), (He.ga K "_law_take"), (He.ga K "_law_word"), (He.ga K "_law_names"), (He.ga K "_law_flip"), (He.ga K "_law_name"), (He.ga K "_law_sorted"), (He.ga K "_law_ordered"), (He.ga K "_law_same"), (He.ga K "_law_row"), (He.ga K "_law_clause")]
def hats1 (K : PySem.W.Frag) : List Addr := [(He.ga K "_law_bad"), (He.ga K "_law_sign"), (He.ga K "_law_is_name"), (He.ga K "_law_row_of"), (He.ga K "_law_changed"), (He.ga K "_law_spaced"), (He.ga K "_law_text"), (He.ga K "_law_refused"), (He.ga K "law"), (He.ma K (He.ga K "BadLiteral") "__init__"), (He.ma K (He.ga K "BadText") "__init__"), (He.ma K (He.ga K "BothSigns") "__init__"), (He.ma K (He.ga K "TooMany") "__init__")]
def hats (K : PySem.W.Frag) : List Addr := hats0 K ++ hats1 K
def hvals0 : List Hk.FV := [some ("is_name", "is_name", defArgs s_is_name, .stmts (defBody s_is_name), defScope s_is_name, mainGlobals, [], builtinsNs), some ("is_literal", "is_literal", defArgs s_is_literal, .stmts (defBody s_is_literal), defScope s_is_literal, mainGlobals, [], builtinsNs), some ("check_literal", "check_literal", defArgs s_check_literal, .stmts (defBody s_check_literal), defScope s_check_literal, mainGlobals, [], builtinsNs), some ("name_of", "name_of", defArgs s_name_of, .stmts (defBody s_name_of), defScope s_name_of, mainGlobals, [], builtinsNs), some ("is_positive", "is_positive", defArgs s_is_positive, .stmts (defBody s_is_positive), defScope s_is_positive, mainGlobals, [], builtinsNs), some ("negated", "negated", defArgs s_negated, .stmts (defBody s_negated), defScope s_negated, mainGlobals, [], builtinsNs), some ("both_signs", "both_signs", defArgs s_both_signs, .stmts (defBody s_both_signs), defScope s_both_signs, mainGlobals, [], builtinsNs), some ("in_order", "in_order", defArgs s_in_order, .stmts (defBody s_in_order), defScope s_in_order, mainGlobals, [], builtinsNs), some ("check_signs", "check_signs", defArgs s_check_signs, .stmts (defBody s_check_signs), defScope s_check_signs, mainGlobals, [], builtinsNs), some ("__init__", "Clause.__init__", defArgs s_Clause_init, .stmts (defBody s_Clause_init), defScope s_Clause_init, mainGlobals, [], builtinsNs), some ("__eq__", "Clause.__eq__", defArgs s_Clause_eq, .stmts (defBody s_Clause_eq), defScope s_Clause_eq, mainGlobals, [], builtinsNs), some ("__str__", "Clause.__str__", defArgs s_Clause_str, .stmts (defBody s_Clause_str), defScope s_Clause_str, mainGlobals, [], builtinsNs), some ("_clause_in", "_clause_in", defArgs s__clause_in, .stmts (defBody s__clause_in), defScope s__clause_in, mainGlobals, [], builtinsNs), some ("read_clause", "read_clause", defArgs s_read_clause, .stmts (defBody s_read_clause), defScope s_read_clause, mainGlobals, [], builtinsNs), some ("_law_source", "_law_source", defArgs s__law_source, .stmts (defBody s__law_source), defScope s__law_source, mainGlobals, [], builtinsNs), some ("_law_take", "_law_take", defArgs s__law_take, .stmts (defBody s__law_take), defScope s__law_take, mainGlobals, [], builtinsNs), some ("_law_word", "_law_word", defArgs s__law_word, .stmts (defBody s__law_word), defScope s__law_word, mainGlobals, [], builtinsNs), some ("_law_names", "_law_names", defArgs s__law_names, .stmts (defBody s__law_names), defScope s__law_names, mainGlobals, [], builtinsNs), some ("_law_flip", "_law_flip", defArgs s__law_flip, .stmts (defBody s__law_flip), defScope s__law_flip, mainGlobals, [], builtinsNs), some ("_law_name", "_law_name", defArgs s__law_name, .stmts (defBody s__law_name), defScope s__law_name, mainGlobals, [], builtinsNs), some ("_law_sorted", "_law_sorted", defArgs s__law_sorted, .stmts (defBody s__law_sorted), defScope s__law_sorted, mainGlobals, [], builtinsNs), some ("_law_ordered", "_law_ordered", defArgs s__law_ordered, .stmts (defBody s__law_ordered), defScope s__law_ordered, mainGlobals, [], builtinsNs), some ("_law_same", "_law_same", defArgs s__law_same, .stmts (defBody s__law_same), defScope s__law_same, mainGlobals, [], builtinsNs), some ("_law_row", "_law_row", defArgs s__law_row, .stmts (defBody s__law_row), defScope s__law_row, mainGlobals, [], builtinsNs), some ("_law_clause", "_law_clause", defArgs s__law_clause, .stmts (defBody s__law_clause), defScope s__law_clause, mainGlobals, [], builtinsNs)]
def hvals1 : List Hk.FV := [some ("_law_bad", "_law_bad", defArgs s__law_bad, .stmts (defBody s__law_bad), defScope s__law_bad, mainGlobals, [], builtinsNs), some ("_law_sign", "_law_sign", defArgs s__law_sign, .stmts (defBody s__law_sign), defScope s__law_sign, mainGlobals, [], builtinsNs), some ("_law_is_name", "_law_is_name", defArgs s__law_is_name, .stmts (defBody s__law_is_name), defScope s__law_is_name, mainGlobals, [], builtinsNs), some ("_law_row_of", "_law_row_of", defArgs s__law_row_of, .stmts (defBody s__law_row_of), defScope s__law_row_of, mainGlobals, [], builtinsNs), some ("_law_changed", "_law_changed", defArgs s__law_changed, .stmts (defBody s__law_changed), defScope s__law_changed, mainGlobals, [], builtinsNs), some ("_law_spaced", "_law_spaced", defArgs s__law_spaced, .stmts (defBody s__law_spaced), defScope s__law_spaced, mainGlobals, [], builtinsNs), some ("_law_text", "_law_text", defArgs s__law_text, .stmts (defBody s__law_text), defScope s__law_text, mainGlobals, [], builtinsNs), some ("_law_refused", "_law_refused", defArgs s__law_refused, .stmts (defBody s__law_refused), defScope s__law_refused, mainGlobals, [], builtinsNs), some ("law", "law", defArgs s_law, .stmts (defBody s_law), defScope s_law, mainGlobals, [], builtinsNs), some ("__init__", "BadLiteral" ++ ".__init__", ea_BadLiteral, .stmts eb_BadLiteral, scope1 "text", mainGlobals, [Str.ofString "__class__"], builtinsNs), some ("__init__", "BadText" ++ ".__init__", ea_BadText, .stmts eb_BadText, scope1 "line", mainGlobals, [Str.ofString "__class__"], builtinsNs), some ("__init__", "BothSigns" ++ ".__init__", ea_BothSigns, .stmts eb_BothSigns, scope1 "name", mainGlobals, [Str.ofString "__class__"], builtinsNs), some ("__init__", "TooMany" ++ ".__init__", ea_TooMany, .stmts eb_TooMany, scope1 "limit", mainGlobals, [Str.ofString "__class__"], builtinsNs)]
def hvals : List Hk.FV := hvals0 ++ hvals1
def hnames0 : List PySem.Str := ["_wall", "__name__", "HornError", "BadLiteral", "BadText", "BothSigns", "TooMany", "LETTERS", "LETTERS_AND_DIGITS", "LONGEST_NAME", "is_name", "is_literal", "check_literal", "name_of", "is_positive", "negated", "both_signs", "in_order", "check_signs", "Clause", "_clause_in", "read_clause", "_law_source", "_law_take", "_law_word"]
def hnames1 : List PySem.Str := ["_law_names", "_law_flip", "_law_name", "_law_sorted", "_law_ordered", "_law_same", "_law_row", "_law_clause", "_law_bad", "_law_sign", "_law_is_name", "_law_row_of", "_law_changed", "_law_spaced", "_law_text", "_law_refused"]
def hnames : List PySem.Str := hnames0 ++ hnames1
abbrev hqv : Program := view HKR.prog [45]
abbrev hhk : PySem.W.Hook := Hk.hook 5 hex hats hvals
theorem hrun (w : World) : HandSHeadRun.RunEq HKR hqv hhk (fun s => Hk.ob 5 hex hats (HandSHeadRun.getT s)) 20000 hnames w := by
  intro os
  kernel_rfl
theorem hfacts {w : World} {K : PySem.W.Frag} {h : Heap} {mg : Str → Option Value} {fa : Addr} (X : K.In h) (G : h.Ns mainGlobals mg) (hfa : mg "law" = some (.ref fa)) (c : Hk.Says hex hats hvals K) :
    ∃ fd : FuncData, (∀ (s : Shared) (v : Value), BindsTo s fd ⟨[v], []⟩ [("_law_script", v)]) ∧ ∀ base : Heap, K.In base → base.Ns mainGlobals mg → L2.FnOk (PySem.Challenge.rw_renamedhorn_k19_clause_texts_read).prog w K mg base L2.CX0 14 fa fd ["_law_script"] (spLaw K) := by
  have hx := c.ex
  simp only [hex, Bool.and_eq_true] at hx
  obtain ⟨g0, g1, g2, g3, g4, g5, g6, g7, g8, g9, g10⟩ := hx
  simp only [hchk0, Bool.and_eq_true, decide_eq_true_eq] at g0
  obtain ⟨cg0, cpg0, chd0, cpo0, csa0, cmi0, ckc0, cha0, cmo0, cme0, cna0_0, om_Clause, ckt0, cvr_Clause, cvg_Clause, b_cvf_Clause_LIMIT, a0, fb_l0, k0, a1, fb_l1, k1, a2, fb_l2, k2⟩ := g0
  simp only [hchk1, Bool.and_eq_true, decide_eq_true_eq] at g1
  obtain ⟨a3, fb_l3, k3, a4, fb_l4, k4, a5, fb_l5, k5, a6, fb_l6, k6, a7, fb_l7, k7, a8, fb_l8, k8, a9, fb_l9, if9, k9, a10, fb_l10, if10⟩ := g1
  simp only [hchk2, Bool.and_eq_true, decide_eq_true_eq] at g2
  obtain ⟨k10, a11, fb_l11, if11, k11, a12, fb_l12, k12, a13, fb_l13, k13, a14, fb_l14, k14, a15, fb_l15, k15, a16, fb_l16, k16, a17, fb_l17, k17, a18, fb_l18⟩ := g2
  simp only [hchk3, Bool.and_eq_true, decide_eq_true_eq] at g3
  obtain ⟨k18, a19, fb_l19, k19, a20, fb_l20, k20, a21, fb_l21, k21, a22, fb_l22, k22, a23, fb_l23, k23, a24, fb_l24, k24, a25, fb_l25, k25, a26, fb_l26, k26⟩ := g3
  simp only [hchk4, Bool.and_eq_true, decide_eq_true_eq] at g4
  obtain ⟨a27, fb_l27, k27, a28, fb_l28, k28, a29, fb_l29, k29, a30, fb_l30, k30, a31, fb_l31, k31, a32, fb_l32, k32, a33, fb_l33, k33, b_v0, b_v1, b_v2, eg0⟩ := g4
  simp only [hchk5, Bool.and_eq_true, decide_eq_true_eq] at g5
  obtain ⟨eg1, b_el1, esa1, ega1, egg1, ein1, ecl1, efn1, eti1, ekc1, ebe1, eve1, ety1, ehd1, eic1, ess1, eup1, emr1, emo1, b_elf1, eg2, b_el2, esa2, ega2, egg2⟩ := g5
  simp only [hchk6, Bool.and_eq_true, decide_eq_true_eq] at g6
  obtain ⟨ein2, ecl2, efn2, eti2, ekc2, ebe2, eve2, ety2, ehd2, eic2, ess2, eup2, emr2, emo2, b_elf2, eg3, b_el3, esa3, ega3, egg3, ein3, ecl3, efn3, eti3, ekc3⟩ := g6
  simp only [hchk7, Bool.and_eq_true, decide_eq_true_eq] at g7
  obtain ⟨ebe3, eve3, ety3, ehd3, eic3, ess3, eup3, emr3, emo3, b_elf3, eg4, b_el4, esa4, ega4, egg4, ein4, ecl4, efn4, eti4, ekc4, ebe4, eve4, ety4, ehd4, eic4⟩ := g7
  simp only [hchk8, Bool.and_eq_true, decide_eq_true_eq] at g8
  obtain ⟨ess4, eup4, emr4, emo4, b_elf4, kt0, kt1, kt2, kt3, kt4, kt5, kt6, kt7, kt8, kt9, kt10, kt11, kt12, kt13, kt14, kt15, kt16, kt17, kt18, kt19⟩ := g8
  simp only [hchk9, Bool.and_eq_true, decide_eq_true_eq] at g9
  obtain ⟨sun_BothSigns_BadLiteral, sun_TooMany_BadLiteral, sun_TooMany_BothSigns, sun_BadLiteral_BothSigns, sun_BadLiteral_TooMany, sun_BothSigns_TooMany, z0, z1, z2, z3, z4, z5, z6, z7, z8, z9, z10, z11, z12, z13, z14, zsu, z16, zop, zsp⟩ := g9
  simp only [hchk10, Bool.and_eq_true, decide_eq_true_eq] at g10
  have ztk := g10
  obtain ⟨_, cvf_Clause_LIMIT⟩ := Hk.ib_get b_cvf_Clause_LIMIT
  obtain ⟨_, _, _, _, _, _, _, _, _, l0, c0⟩ := Hk.fb_get (c.at_ 0 rfl rfl) fb_l0
  obtain ⟨_, _, _, _, _, _, _, _, _, l1, c1⟩ := Hk.fb_get (c.at_ 1 rfl rfl) fb_l1
  obtain ⟨_, _, _, _, _, _, _, _, _, l2, c2⟩ := Hk.fb_get (c.at_ 2 rfl rfl) fb_l2
  obtain ⟨_, _, _, _, _, _, _, _, _, l3, c3⟩ := Hk.fb_get (c.at_ 3 rfl rfl) fb_l3
  obtain ⟨_, _, _, _, _, _, _, _, _, l4, c4⟩ := Hk.fb_get (c.at_ 4 rfl rfl) fb_l4
  obtain ⟨_, _, _, _, _, _, _, _, _, l5, c5⟩ := Hk.fb_get (c.at_ 5 rfl rfl) fb_l5
  obtain ⟨_, _, _, _, _, _, _, _, _, l6, c6⟩ := Hk.fb_get (c.at_ 6 rfl rfl) fb_l6
  obtain ⟨_, _, _, _, _, _, _, _, _, l7, c7⟩ := Hk.fb_get (c.at_ 7 rfl rfl) fb_l7
  obtain ⟨_, _, _, _, _, _, _, _, _, l8, c8⟩ := Hk.fb_get (c.at_ 8 rfl rfl) fb_l8
  obtain ⟨_, _, _, _, _, _, _, _, _, l9, c9⟩ := Hk.fb_get (c.at_ 9 rfl rfl) fb_l9
  obtain ⟨_, _, _, _, _, _, _, _, _, l10, c10⟩ := Hk.fb_get (c.at_ 10 rfl rfl) fb_l10
  obtain ⟨_, _, _, _, _, _, _, _, _, l11, c11⟩ := Hk.fb_get (c.at_ 11 rfl rfl) fb_l11
  obtain ⟨_, _, _, _, _, _, _, _, _, l12, c12⟩ := Hk.fb_get (c.at_ 12 rfl rfl) fb_l12
  obtain ⟨_, _, _, _, _, _, _, _, _, l13, c13⟩ := Hk.fb_get (c.at_ 13 rfl rfl) fb_l13
  obtain ⟨_, _, _, _, _, _, _, _, _, l14, c14⟩ := Hk.fb_get (c.at_ 14 rfl rfl) fb_l14
  obtain ⟨_, _, _, _, _, _, _, _, _, l15, c15⟩ := Hk.fb_get (c.at_ 15 rfl rfl) fb_l15
  obtain ⟨_, _, _, _, _, _, _, _, _, l16, c16⟩ := Hk.fb_get (c.at_ 16 rfl rfl) fb_l16
  obtain ⟨_, _, _, _, _, _, _, _, _, l17, c17⟩ := Hk.fb_get (c.at_ 17 rfl rfl) fb_l17
  obtain ⟨_, _, _, _, _, _, _, _, _, l18, c18⟩ := Hk.fb_get (c.at_ 18 rfl rfl) fb_l18
  obtain ⟨_, _, _, _, _, _, _, _, _, l19, c19⟩ := Hk.fb_get (c.at_ 19 rfl rfl) fb_l19
  obtain ⟨_, _, _, _, _, _, _, _, _, l20, c20⟩ := Hk.fb_get (c.at_ 20 rfl rfl) fb_l20
  obtain ⟨_, _, _, _, _, _, _, _, _, l21, c21⟩ := Hk.fb_get (c.at_ 21 rfl rfl) fb_l21
  obtain ⟨_, _, _, _, _, _, _, _, _, l22, c22⟩ := Hk.fb_get (c.at_ 22 rfl rfl) fb_l22
  obtain ⟨_, _, _, _, _, _, _, _, _, l23, c23⟩ := Hk.fb_get (c.at_ 23 rfl rfl) fb_l23
  obtain ⟨_, _, _, _, _, _, _, _, _, l24, c24⟩ := Hk.fb_get (c.at_ 24 rfl rfl) fb_l24
  obtain ⟨_, _, _, _, _, _, _, _, _, l25, c25⟩ := Hk.fb_get (c.at_ 25 rfl rfl) fb_l25
  obtain ⟨_, _, _, _, _, _, _, _, _, l26, c26⟩ := Hk.fb_get (c.at_ 26 rfl rfl) fb_l26
  obtain ⟨_, _, _, _, _, _, _, _, _, l27, c27⟩ := Hk.fb_get (c.at_ 27 rfl rfl) fb_l27
  obtain ⟨_, _, _, _, _, _, _, _, _, l28, c28⟩ := Hk.fb_get (c.at_ 28 rfl rfl) fb_l28
  obtain ⟨_, _, _, _, _, _, _, _, _, l29, c29⟩ := Hk.fb_get (c.at_ 29 rfl rfl) fb_l29
  obtain ⟨_, _, _, _, _, _, _, _, _, l30, c30⟩ := Hk.fb_get (c.at_ 30 rfl rfl) fb_l30
  obtain ⟨_, _, _, _, _, _, _, _, _, l31, c31⟩ := Hk.fb_get (c.at_ 31 rfl rfl) fb_l31
  obtain ⟨_, _, _, _, _, _, _, _, _, l32, c32⟩ := Hk.fb_get (c.at_ 32 rfl rfl) fb_l32
  obtain ⟨_, _, _, _, _, _, _, _, _, l33, c33⟩ := Hk.fb_get (c.at_ 33 rfl rfl) fb_l33
  obtain ⟨_, v0⟩ := Hk.sb_get b_v0
  obtain ⟨_, v1⟩ := Hk.sb_get b_v1
  obtain ⟨_, v2⟩ := Hk.nb_get b_v2
  obtain ⟨_, _, _, _, _, _, _, _, _, _, _, _, _, _, _, el1, er1⟩ := Hk.eb_get b_el1
  obtain ⟨_, _, _, _, _, _, _, _, _, elf1, ecd1, _, _, _, _, _, _, elc1, evs1, efi1, _, _, _, ece1⟩ := Hk.eib_get (c.at_ 34 rfl rfl) b_elf1
  obtain ⟨_, _, _, _, _, _, _, _, _, _, _, _, _, _, _, el2, er2⟩ := Hk.eb_get b_el2
  obtain ⟨_, _, _, _, _, _, _, _, _, elf2, ecd2, _, _, _, _, _, _, elc2, evs2, efi2, _, _, _, ece2⟩ := Hk.eib_get (c.at_ 35 rfl rfl) b_elf2
  obtain ⟨_, _, _, _, _, _, _, _, _, _, _, _, _, _, _, el3, er3⟩ := Hk.eb_get b_el3
  obtain ⟨_, _, _, _, _, _, _, _, _, elf3, ecd3, _, _, _, _, _, _, elc3, evs3, efi3, _, _, _, ece3⟩ := Hk.eib_get (c.at_ 36 rfl rfl) b_elf3
  obtain ⟨_, _, _, _, _, _, _, _, _, _, _, _, _, _, _, el4, er4⟩ := Hk.eb_get b_el4
  obtain ⟨_, _, _, _, _, _, _, _, _, elf4, ecd4, _, _, _, _, _, _, elc4, evs4, efi4, _, _, _, ece4⟩ := Hk.eib_get (c.at_ 37 rfl rfl) b_elf4
  exact all_mk (l := PySem.Challenge.rw_renamedhorn_k19_clause_texts_read) X G hfa cg0 cpg0 chd0 cpo0 csa0 cmi0 ckc0 cha0 cmo0 cme0 cna0_0 om_Clause ckt0 cvr_Clause cvg_Clause cvf_Clause_LIMIT a0 l0 c0 k0 a1 l1 c1 k1 a2 l2 c2 k2 a3 l3 c3 k3 a4 l4 c4 k4 a5 l5 c5 k5 a6 l6 c6 k6 a7 l7 c7 k7 a8 l8 c8 k8 a9 l9 if9 c9 k9 a10 l10 if10 c10 k10 a11 l11 if11 c11 k11 a12 l12 c12 k12 a13 l13 c13 k13 a14 l14 c14 k14 a15 l15 c15 k15 a16 l16 c16 k16 a17 l17 c17 k17 a18 l18 c18 k18 a19 l19 c19 k19 a20 l20 c20 k20 a21 l21 c21 k21 a22 l22 c22 k22 a23 l23 c23 k23 a24 l24 c24 k24 a25 l25 c25 k25 a26 l26 c26 k26 a27 l27 c27 k27 a28 l28 c28 k28 a29 l29 c29 k29 a30 l30 c30 k30 a31 l31 c31 k31 a32 l32 c32 k32 a33 l33 c33 k33 v0 v1 v2 eg0 eg1 el1 er1 esa1 ega1 egg1 ein1 ecl1 efn1 eti1 ekc1 ebe1 eve1 ety1 ehd1 eic1 ess1 eup1 emr1 emo1 elf1 ecd1 elc1 evs1 efi1 ece1 eg2 el2 er2 esa2 ega2 egg2 ein2 ecl2 efn2 eti2 ekc2 ebe2 eve2 ety2 ehd2 eic2 ess2 eup2 emr2 emo2 elf2 ecd2 elc2 evs2 efi2 ece2 eg3 el3 er3 esa3 ega3 egg3 ein3 ecl3 efn3 eti3 ekc3 ebe3 eve3 ety3 ehd3 eic3 ess3 eup3 emr3 emo3 elf3 ecd3 elc3 evs3 efi3 ece3 eg4 el4 er4 esa4 ega4 egg4 ein4 ecl4 efn4 eti4 ekc4 ebe4 eve4 ety4 ehd4 eic4 ess4 eup4 emr4 emo4 elf4 ecd4 elc4 evs4 efi4 ece4 kt0 kt1 kt2 kt3 kt4 kt5 kt6 kt7 kt8 kt9 kt10 kt11 kt12 kt13 kt14 kt15 kt16 kt17 kt18 kt19 sun_BothSigns_BadLiteral sun_TooMany_BadLiteral sun_TooMany_BothSigns sun_BadLiteral_BothSigns sun_BadLiteral_TooMany sun_BothSigns_TooMany z0 z1 z2 z3 z4 z5 z6 z7 z8 z9 z10 z11 z12 z13 z14 zsu z16 zop zsp ztk (by first | rfl | decide +kernel)
end
end Hk19
open PySem PySem.W PySem.Calls PyProof.Rows
set_option maxHeartbeats 0 in
theorem PySem.Challenge.cw_renamedhorn_k19_clause_texts_read_holds : PySem.Challenge.rw_renamedhorn_k19_clause_texts_read.Holds := by
  w_on; o_law
  refine HandSHeadRun.head_any (r := OpenLaw.row PySem.Challenge.rw_renamedhorn_k19_clause_texts_read) (q := Hk19.hqv) (H := Hk19.hhk) (ob := fun s => Hk.ob 5 Hk19.hex Hk19.hats (HandSHeadRun.getT s)) (M := 20000) (loose := Hk19.hnames) (d := HandSHeadRun.topDef (OpenLaw.row PySem.Challenge.rw_renamedhorn_k19_clause_texts_read).prog 45) (kwd := []) (fun s => Hk.ob_eq s)
    (by kernel_rfl) (fun s => by kernel_rfl) Hk19.hrun (by kernel_rfl) (by kernel_rfl) (by kernel_rfl) (by rfl) (by first | assumption | decide +kernel) (by decide +kernel) ⟨rfl, rfl, rfl, rfl, rfl, by decide +kernel⟩ ?hw ?hc
  case hw => w_witness2
  case hc =>
    refine L2.walk_ofE (l := PySem.Challenge.rw_renamedhorn_k19_clause_texts_read) (n := 63) (k := 14) (x := "_law_script") (CX := L2.CX0) rfl (by decide) (by kernel_rfl) ⟨rfl, by decide, by decide⟩ ?F (fun _ _ _ _ z => z)
    intro w mg fa h Y G hmg0
    obtain ⟨K, KX, c⟩ := Y
    have hmg : mg ("law" : PySem.Str) = some (.ref fa) := by
      have e : (HandSHeadRun.topDef (OpenLaw.row PySem.Challenge.rw_renamedhorn_k19_clause_texts_read).prog 45).name = ("law" : PySem.Str) := by kernel_rfl
      rw [← e]
      exact hmg0
    obtain ⟨fd, hb, hF⟩ := Hk19.hfacts (w := w) KX G hmg c
    exact ⟨K, fd, Hk19.spLaw K, KX, hb, fun H a ns hl _ hS => ⟨a, ns, rfl, hS, hl, fun _ => rfl⟩, hF⟩
