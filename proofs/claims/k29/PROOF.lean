import PyProof.Rows.All
import Wide.All
import OpenK.AllK
import Wide.FinOn
import PyProof.EqAt
import PyProof.EqKinds
import PyProof.TupleCall
import PyProof.FString
import PyProof.FString4
import KE.KExcSuper
import HandS.ForMost
import HandS.ForExc
import HandS.ExcIs
import KE.KExcIs
import HandS.IsInst
import HandS.ExcCtx
import HandS.HotCalls
import HandS.Evl
import HandS.Wide
import HandS.Defaults
import HandS.Gcd
import HandS.FStr
import HandS.Codes
import HandS.ClsMeth
import HandS.Replace
import HandS.ReplaceLit
import HandS.CallSlots
import HandS.ReplaceList
import HandS.Set
import HandS.SetFor
import HandS.SetTxt0
import HandS.Strs
import PyProof.Rows.SortStr
import PyProof.Rows.SortShellAny
import HandS.Comp
import HandS.Hot
import HandS.Star
import HandS.Style
import HandS.OwnIter
import HandS.IterNext
import HandS.TupAny
import PyProof.DictUpdate
import KE.KDictList
import HandS.Words
import KE.GoesEnumKw
import KE.GoesMore
import HandS.Walk
import HandS.DictComp
import HandS.Deep
import HandS.More
import HandS.HeadEnd
import HandS.HeadHook1
import HandS.HeadHook2
import HandS.Head0
import HandS.Head1
import HandS.Head2
import HandS.StrMore
import HandS.Text
import HandS.Iter
import HandS.RaiseMore
import HandS.Rev
import HandS.Property
import HandS.Dict
import HandS.WordsDict
import PySem.Challenge.RW_renamedhorn_k29_rings_apart
set_option Elab.async false
set_option linter.all false
set_option maxRecDepth 100000
set_option maxHeartbeats 4000000
/-! Own error classes (over a class over ValueError) whose __init__ hands a text to super().__init__ and keeps one argument, or none. -/
namespace Er
open PySem PySem.W PySem.Calls PyProof.Rows PySem.HandSPX
/-- the text of __init__(self, f): super().__init__(me); self.f = f -/
def args1 (f : Str) (p1 p2 : Pos) : Arguments := { posonlyargs := [], args := [{ arg := "self", annotation := none, pos := p1 }, { arg := f, annotation := none, pos := p2 }], vararg := none, kwonlyargs := [], kw_defaults := [], kwarg := none, defaults := [] }
def supS (me : Expr) (a b c d e : Pos) : Stmt := .Expr (.Call (.Attribute (.Call (.Name "super" a) [] [] b) "__init__" c) [me] [] d) e
def keepS (f : Str) (a b c d : Pos) : Stmt := .Assign [.Attribute (.Name "self" a) f b] (.Name f c) d
def scope1 (f : Str) : Scope := { kind := .function, names := [(PySem.Str.ofString "self", .local), (f, .local), (PySem.Str.ofString "__class__", .free), (PySem.Str.ofString "super", .globalImplicit)], isGenerator := false, isCoroutine := false, more := [] }
/-- what the written part says of an error class at C with its __init__ at fI, its __class__ cell at cc, its code at cda -/
structure Cls1 (P : Program) (K : Frag) (mg : Str → Option Value) (nm : Str) (C fI : Addr) (pars : Arguments) (body : List Stmt) (sc : Scope) : Prop where
  gC : mg nm = some (.ref C)
  cls : ∃ n q N bs bm sn sub ab col dd k0 k1 k2 k3 k5, K.lookup C = some (excClassObj n q C N bs bm true sn sub ab col dd k0 k1 k2 k3 k5 "ValueError.__new__") ∧ refsVE bm = true
  sa : findIn K (.ref C) "__setattr__" = some (some (.builtin "object.__setattr__"))
  ga : findIn K (.ref C) "__getattribute__" = some (some (.builtin "BaseException.__getattribute__"))
  gg : findIn K (.ref C) "__getattr__" = some none
  iC : findIn K (.ref C) "__init__" = some (some (.ref fI))
  tC : typeIn K (.ref fI) = some (.type "function")
  kC : keepIn K (.ref C) = true
  exC : subIn K (.ref C) (.type "BaseException") = some true
  veC : subIn K (.ref C) (.type "ValueError") = some true
  tyC : typeIn K (.ref C) = some (.type "type")
  hdC : hasDictIn K C = true
  te : exmOne K (.ref C) (.ref C) = some true
  up : ks_superIn K C C "__init__" = some (some (.builtin "ValueError.__init__"))
  self : mroIn K C (.ref C) = some true
  op : nsIn K cStatics "thirdparty.any" = some none
  noS : mg "super" = none
  fn : ∃ (oc : Value) (od : Option Addr) (doc pm : Value) (an : Option Addr) (cda cc : Addr) (ct : Value) (osl : Array (Option Value)) (ccl cl : Value) (cdd cld : Option Addr) (vs : Array Value) (ccs csl : Array (Option Value)) (file : Str) (tf : Tok),
    K.lookup fI = some ⟨oc, od, .func (ksFn "__init__" (nm ++ ".__init__") pars body sc .none .none doc pm an (.ref cda) ct cc), osl⟩ ∧ codeIn K (.ref cda) (nm ++ ".__init__") = true ∧
    K.lookup cda = some ⟨ccl, cdd, .fields vs, ccs⟩ ∧ vs[2]? = some (.str file tf) ∧ ((P.main.file : Str) == file) = true ∧
    K.lookup cc = some ⟨cl, cld, .cell (some (.ref C)), csl⟩
  noM : (P.main.scope.names.lookup ("super" : Str)).isSome = false
/-- an expression that gives a text and makes nothing else, where the name x holds v -/
structure Msg (me : Expr) (x : Str) (v : Value) (sc : Scope) : Prop where
  call : ∀ (env : Env) (a b c d : Pos), (c.endLine == d.line) = true → ∃ pl : Sem Bool, eval (.Call (.Attribute (.Call (.Name "super" a) [] [] b) "__init__" c) [me] [] d) env = (do
      let ov ← attributeBase (.Call (.Name "super" a) [] [] b) "__init__" env (eval (.Call (.Name "super" a) [] [] b) env)
      standAt c.atName
      let (f, first) ← holding [ov] (getMethod ov "__init__" pl)
      callWith d f first (backTo d (starEach [me] env)) [])
  star : ∀ env : Env, starEach [me] env = (false, eval me env) :: starEach [] env
  swap : ∀ (env : Env) (a b c d : Pos) (n : Nat), swapsWith (.Call (.Attribute (.Call (.Name "super" a) [] [] b) "__init__" c) [me] [] d) none n env = pure false
  text : ∀ (prog : Program) (w : World) (A : Around) (E : Value → Shared → Prop) (env : Env) (s : Shared) (m : Str → Option Value) (Q : Value → Shared → Prop),
    env.scope = sc → s.heap.Ns env.locals m → m x = some v → (∀ y tk n, Q (.str y tk) { s with toks := n }) → wpAny (model prog w) A (eval me env) Q E s
theorem size1 (v : Value) : [v].length ≤ sizeLine := by
  rw [sizeLine_eq]
  exact (by decide : 1 ≤ 16777216)
theorem call_eq {o me : Expr} {nm : Str} {c d : Pos} {env : Env} (he : (c.endLine == d.line) = true) (hf : methodCallForm ([me].length + ([] : List Keyword).length) (backTo d (starEach [me] env)) (backToKw d (keywordEach [] env)) = true) :
    eval (.Call (.Attribute o nm c) [me] [] d) env = (do
      let ov ← attributeBase o nm env (eval o env)
      standAt c.atName
      let (f, first) ← holding [ov] (getMethod ov nm (do return (← importBound o env).getD true))
      callWith d f first (backTo d (starEach [me] env)) []) := by
  show (do
    let ov ← attributeBase o nm env (eval o env)
    standAt c.atName
    methodCall o nm c d env ov ([me].length + ([] : List Keyword).length) (backTo d (starEach [me] env)) (backToKw d (keywordEach [] env))) = _
  unfold methodCall
  rw [hf]
  unfold methodCallPos
  simp only [he, Bool.or_true, if_true]
  rfl
/-- an error of the class at S is what «except S» names -/
theorem exm_self {S : Addr} {K : Frag} (h1 : subIn K (.ref S) (.type "BaseException") = some true) (h2 : isClsIn K S = true) (h3 : typeIn K (.ref S) = some (.type "type")) (h4 : subIn K (.ref S) (.ref S) = some true) :
    exmOne K (.ref S) (.ref S) = some true := by
  have e1 : (subIn K (.ref S) (.type "BaseException") == some true) = true := by rw [h1] <;> rfl
  have e2 : ((clsIn K S).isSome && typeIn K (.ref S) == some (.type "type")) = true := by
    have h2' : (clsIn K S).isSome = true := h2
    rw [h2', h3] <;> rfl
  show (if (subIn K (.ref S) (.type "BaseException") == some true) = true then (if ((clsIn K S).isSome && typeIn K (.ref S) == some (.type "type")) = true then subIn K (.ref S) (.ref S) else none) else none) = some true
  rw [if_pos e1, if_pos e2]
  exact h4
section
variable {prog : Program} {w : World} {A : Around} {E : Value → Shared → Prop} {R : Result → Shared → Prop} {s : Shared} {K : Frag} {mg mb : Str → Option Value} {C fI : Addr} {nm f : Str}
/-- ValueError.__init__ bound to the exception, called -/
theorem call_mw {h : Heap} {g : Array GenState} {d : Drawn} {t : Nat} {os : OsState} {n q : Str} {N : Addr} {bs bm : List Value} {hdct : Bool} {sn : List Str} {sub : List Value} {ab : Bool} {col : Option Bool} {dd : Option Addr} {k0 k1 k2 k3 k5 : Option Value}
    {u e t0 : Addr} {rest : List Value} {Q : Value → Shared → Prop}
    (hC : h.get? C = some (excClassObj n q C N bs bm hdct sn sub ab col dd k0 k1 k2 k3 k5 "ValueError.__new__")) (he : h.get? e = some (excO C t0)) (hu : h.get? u = some (kxs_mw "ValueError.__init__" e)) (hrest : rest.length ≤ sizeLine)
    (hq : ∀ h' t1, (∀ b o, b ≠ e → h.get? b = some o → h'.get? b = some o) → h'.get? e = some (excO C t1) → Q .none ⟨h', g, d, t, os⟩) :
    wpAny (model prog w) A (call (.ref u) rest) Q E ⟨h, g, d, t, os⟩ := by
  refine wpAny_call
    (codeAny_of_tree ?_)
  show wpAny _ A.in1
    (callAny (.ref u) ⟨rest, []⟩) _ _ _
  simp only
    [callAny]
  refine wpAny_bind
    (wpAny_load hu ?_)
  simp only [kxs_mw, show (Value.type "method-wrapper" == Value.type "method" || Value.type "method-wrapper" == Value.type "builtin_function_or_method" ||
    Value.type "method-wrapper" == Value.type "method-wrapper") = true by decide, if_true]
  refine KFB.if_so (by decide) ?_
  refine wpAny_bind
    (check_bound_init PySem.F.excBase_ValueError.toExcCallFacts hC he rfl ?_)
  refine wpAny_bind (wpAny_pure
    (wpAny_pure ?_))
  refine ⟨plainId_quiet PySem.F.excBase_ValueError.init.plain _, codeAny_builtin PySem.F.excBase_ValueError.initEntry ?_⟩
  exact exc_init_tree (cls := .ref C) (t0 := t0) (dv := none) (c2 := .none) (c3 := .none) (b4 := .bool false) he hrest
    (fun h' k e' _ => hq h' _ k e')
/-- what super().__init__(..) leaves of a fresh exception at x -/
structure Sup (h h' : Heap) (x C : Addr) : Prop where
  keep : ∀ b o, b ≠ x → h.get? b = some o → h'.get? b = some o
  obj : ∃ t1, h'.get? x = some (excO C t1)
theorem sup_body {pars : Arguments} {body0 body : List Stmt} {sc : Scope} {me : Expr} {a b c d e : Pos} {env : Env} {L t0 x : Addr} {m : Str → Option Value} {y : Str} {v : Value} {rest : List Stmt} {Q : Flow → Shared → Prop} {ar : Arg} {h : Heap} {g : Array GenState} {dr : Drawn} {t : Nat} {os : OsState}
    (T : Cls1 prog K mg nm C fI pars body0 sc) (X : K.In h) (hg : h.Ns mainGlobals mg) (hb : h.Ns builtinsNs mb) (hbb : ∀ z : Str, z ≠ "__name__" → mb z = bootBuiltins z)
    (hL : h.Ns L m) (hx : h.get? x = some (excO C t0)) (hself : m "self" = some (.ref x)) (hp : (pars.posonlyargs ++ pars.args).head? = some ar) (hpa : ar.arg = "self") (hM : Msg me y v sc) (hmy : m y = some v)
    (henv : ∃ qual cda cc ccl cl cdd cld vs ccs csl file tf, env = ksEnv qual sc L fI (.ref cda) cc ∧ K.lookup cda = some ⟨ccl, cdd, .fields vs, ccs⟩ ∧ vs[2]? = some (.str file tf) ∧ ((prog.main.file : Str) == file) = true ∧
      K.lookup cc = some ⟨cl, cld, .cell (some (.ref C)), csl⟩)
    (hks : sc.names.lookup ("super" : Str) = some .globalImplicit) (hkc : sc.names.lookup ("__class__" : Str) = some .free) (hka : sc.names.lookup ("self" : Str) = some .local) (hk : sc.kind = .function) (hcd : (c.endLine == d.line) = true)
    (hq : ∀ h' tk, Sup h h' x C → _root_.PySem.wpAt (model prog w) A (.func body env) (execs rest env) Q E ⟨h', g, dr, tk, os⟩) :
    _root_.PySem.wpAt (model prog w) A (.func body env) (execs (supS me a b c d e :: rest) env) Q E ⟨h, g, dr, t, os⟩ := by
  obtain ⟨qual, cda, cc, ccl, cl, cdd, cld, vs, ccs, csl, file, tf, rfl, hcode, hvs, hfile, hcell⟩ := henv
  obtain ⟨oc, od, doc, pm, an, cda', cc', ct, osl, ccl', cl', cdd', cld', vs', ccs', csl', file', tf', hf, _⟩ := T.fn
  obtain ⟨n, q, N, bs, bm, sn, sub, ab, col, dd, k0, k1, k2, k3, k5, hC, hbm⟩ := T.cls
  have hcl : clsIn K C = some { name := n, bases := bs, mro := .ref C :: bm, ns := N, qualname := q, hasDict := true, slotNames := sn, subclasses := sub, abstract := ab, collection := col, hasDel := false } := by unfold clsIn; rw [hC] <;> rfl
  have hup : alongIn K "__init__" (((Value.ref C :: bm).dropWhile (· != .ref C)).drop 1) = some (some (.builtin "ValueError.__init__")) := by
    have z := T.up
    unfold ks_superIn at z
    rw [hcl] at z
    exact z
  obtain ⟨pl, hcall⟩ := hM.call (ksEnv qual sc L fI (.ref cda) cc) a b c d hcd
  refine ks_wpAt_execs_cons (ks_wpAt_Expr_any (ks_wpAt_MethodCall (pl := pl) ?_ hcall) (by show (sc.kind == .module && _) = false; rw [hk]; rfl) (hM.swap _ _ _ _ _ _))
  refine ks_wpAt_super_base (fd := ksFn "__init__" (nm ++ ".__init__") pars body0 sc .none .none doc pm an (.ref cda') ct cc') hks hkc (by decide) rfl (X _ _ hf) rfl hp rfl (X _ _ hcode) rfl hvs hfile T.noM ?_
  refine ks_loadName_global hk hks (loadGlobal_builtin (env := ksEnv qual sc L fI (.ref cda) cc) hg T.noS hb ((hbb _ (by decide)).trans (show bootBuiltins "super" = some (.type "super") by first | rfl | kernel_rfl)) ⟨rfl, ?_⟩)
  refine wpAny_loadName_free hk hkc (c := cc) (v := .ref C) rfl ⟨_, X _ _ hcell, rfl⟩ ?_
  rw [hpa]
  refine wpAny_loadName_local hk hka hL hself ?_
  refine ks_wpAny_isType_cls (X _ _ hC) rfl ⟨rfl, ?_⟩
  have I : InstAt h x (excO C t0) C none := ⟨hx, rfl, rfl, trivial⟩
  refine ks_wpAny_call_super (X _ _ hC) rfl hx rfl (fun c z => by cases z) (looks_mroIn X T.self) (fun h2 hso kk => ?_)
  have X2 : K.In h2 := X.keeps kk
  have hx2 := kk _ _ hx
  have I2 : InstAt h2 x (excO C t0) C none := ⟨hx2, rfl, rfl, trivial⟩
  refine kxs_getMethod kxs_ValueError hso (looks_opaque X2 T.op) (l₀ := .ref C :: bm) (fun A Q E s k q => wpAny_bind ((looks_clsIn X2 hcl) A _ E s k (wpAny_pure q))) rfl X2 hup (I2.type.andThen (looks_subIn X2 T.veC)) (ks_ne X2 I2 hcl) (by decide) ?_
  have kk3 : ∀ b o, h2.get? b = some o → (h2.push (kxs_mw "ValueError.__init__" x)).get? b = some o := fun b o z => Heap.get?_push_of_some _ z
  have hu : (h2.push (kxs_mw "ValueError.__init__" x)).get? h2.objs.size = some (kxs_mw "ValueError.__init__" x) := Heap.get?_push_at rfl rfl
  have hLx : L ≠ x := fun z => by
    obtain ⟨oL, es, ep, hoL, hdL, _⟩ := hL
    rw [z, hx] at hoL
    have z2 := Option.some.inj hoL
    subst z2
    cases hdL
  have he1 := hM.star (ksEnv qual sc L fI (.ref cda) cc)
  refine kxs_callWith (i := "ValueError.__init__") (x := x) (by rw [he1]; rfl) ?_
  rw [he1]
  refine evalArgs_plain ?_
  refine spliced_cons ?_
  refine hM.text _ _ _ _ _ _ m _ rfl (hL.keeps fun b o z => kk3 b o (kk b o z)) hmy (fun y' tk' n' => ?_)
  refine spliced_nil ?_
  refine ⟨hu, ?_⟩
  refine call_mw (X2.keeps kk3 _ _ hC) (kk3 _ _ hx2) hu (size1 _) (fun h' t1 k' e' => ?_)
  exact hq h' _ ⟨fun b o nb z => k' b o nb (kk3 b o (kk b o z)), t1, e'⟩
theorem ldL {env : Env} {m : Str → Option Value} {x : Str} {pos : Pos} {v : Value} {Q : Value → Shared → Prop} (hn : s.heap.Ns env.locals m) (hv : m x = some v) (hk : env.scope.kind = .function) (hl : env.kindOf x = some .local) (hd : (x == ("__debug__" : Str)) = false) (h : Q v s) :
    wpAny (model prog w) A (eval (.Name x pos) env) Q E s := wpAny_Name (wpAny_loadName_local hk hl hn hv h) hd
/-- how a field's name stands in such a text -/
structure Fld (f : Str) : Prop where
  bind : ∀ (q : Str) (p1 p2 : Pos) (body : List Stmt) (dV kV doc pm : Value) (an : Option Addr) (cd ct : Value) (cc : Addr) (x v : Value), bindArgs (ksFn "__init__" q (args1 f p1 p2) body (scope1 f) .none .none doc pm an cd ct cc) ⟨[x, v], []⟩ = pure [(("self" : Str), x), (f, v)]
  ne : (f == ("self" : Str)) = false
  dbg : (f == ("__debug__" : Str)) = false
  kf : (scope1 f).names.lookup f = some .local
  ks : (scope1 f).names.lookup ("super" : Str) = some .globalImplicit
  kc : (scope1 f).names.lookup ("__class__" : Str) = some .free
  cell : ∀ x ∈ (scope1 f).names, x.2 ≠ .cell
/-- what __init__ leaves of a fresh exception at x: a dict at dx that holds the field -/
structure End1 (h h' : Heap) (x C dx : Addr) (f : Str) (v : Value) : Prop where
  keep : ∀ b o, b ≠ x → h.get? b = some o → h'.get? b = some o
  obj : ∃ t1, h'.get? x = some { cls := .ref C, dict := some dx, data := .fields #[.ref t1, .none, .none, .none, .bool false, .none] }
  big : h.objs.size ≤ dx
  ne : dx ≠ x
  ns : h'.Ns1 dx (fun y => if y = f then some v else none)
/-- the __init__ of one argument -/
theorem init1 {f : Str} {p1 p2 a b c d e a' b' c' d' : Pos} {me : Expr} {x t0 : Addr} {v : Value}
    (T : Cls1 prog K mg nm C fI (args1 f p1 p2) [supS me a b c d e, keepS f a' b' c' d'] (scope1 f)) (X : K.In s.heap) (hg : s.heap.Ns mainGlobals mg) (hb : s.heap.Ns builtinsNs mb) (hbb : ∀ z : Str, z ≠ "__name__" → mb z = bootBuiltins z)
    (hlim : s.heap.NoLimit) (hx : s.heap.get? x = some (excO C t0)) (hnx : K.lookup x = none) (hroom : A.depth < recursionLimit) (hM : Msg me f v (scope1 f)) (hcdp : (c.endLine == d.line) = true) (hF : Fld f) (noN : findIn K (.ref C) f = some none)
    (hq : ∀ h' tk dx, End1 s.heap h' x C dx f v → R (.ok (.ret .none)) { s with heap := h', toks := tk }) :
    codeAny (model prog w) A (.call (.ref fI) ⟨[.ref x, v], []⟩) R s := by
  obtain ⟨oc, od, doc, pm, an, cda, cc, ct, osl, ccl, cl, cdd, cld, vs, ccs, csl, file, tf, hf, hcd, hcode, hvs, hfile, hcell⟩ := T.fn
  obtain ⟨n, q, N, bs, bm, sn, sub, ab, col, dd, k0, k1, k2, k3, k5, hC, hbm⟩ := T.cls
  have hcl : clsIn K C = some { name := n, bases := bs, mro := .ref C :: bm, ns := N, qualname := q, hasDict := true, slotNames := sn, subclasses := sub, abstract := ab, collection := col, hasDel := false } := by unfold clsIn; rw [hC] <;> rfl
  have l1 : (scope1 f).names.lookup ("self" : Str) = some .local := rfl
  have fs : ¬ f = ("self" : Str) := by simpa using hF.ne
  refine ks_codeAny_call_defAt (fd := ksFn "__init__" (nm ++ ".__init__") (args1 f p1 p2) [supS me a b c d e, keepS f a' b' c' d'] (scope1 f) .none .none doc pm an (.ref cda) ct cc) (body := [supS me a b c d e, keepS f a' b' c' d'])
    (binds := [(("self" : Str), Value.ref x), (f, v)]) hroom (X _ _ hf) rfl hlim (codeRec_of X hcd) rfl (BindsTo.of_eq (hF.bind _ _ _ _ .none .none _ _ _ _ _ _ _ _)) hF.cell (fun y hy => ?_) (fun h₁ hns kk => ?_)
  · rcases List.mem_cons.mp hy with e | hy
    · rw [e]
      exact l1
    · rw [List.mem_singleton.mp hy]
      exact hF.kf
  · obtain ⟨hp, g, dr, tk, os⟩ := s
    have X1 : K.In h₁ := X.keeps kk
    have ms : (fun y : Str => ([(("self" : Str), Value.ref x), (f, v)]).reverse.lookup y) ("self" : Str) = some (.ref x) := by
      show List.lookup ("self" : Str) [(f, v), (("self" : Str), Value.ref x)] = some (.ref x)
      have z : (("self" : Str) == f) = false := by
        rw [beq_eq_false_iff_ne]
        exact fun z => fs z.symm
      rw [List.lookup_cons, z]
      simp [List.lookup]
    have mf : (fun y : Str => ([(("self" : Str), Value.ref x), (f, v)]).reverse.lookup y) f = some v := by
      show List.lookup f [(f, v), (("self" : Str), Value.ref x)] = some v
      simp [List.lookup]
    have hL : hp.objs.size ≠ x := Nat.ne_of_gt (Heap.lt_size hx)
    refine sup_body (mb := mb) T X1 (hg.keeps kk) (hb.keeps kk) hbb hns (kk _ _ hx) ms rfl rfl hM mf ⟨_, cda, cc, ccl, cl, cdd, cld, vs, ccs, csl, file, tf, rfl, hcode, hvs, hfile, hcell⟩ hF.ks hF.kc l1 rfl hcdp (fun h2 tk2 S => ?_)
    obtain ⟨t1, hx2⟩ := S.obj
    have hns2 : h2.Ns hp.objs.size _ := hns.at fun o z => S.keep _ _ hL z
    have X2 : K.In h2 := fun b o z => S.keep b o (fun y => by
      rw [y, hnx] at z
      cases z) (X1 b o z)
    refine ks_wpAt_execs_cons (wpAt_of_wpAny ?_)
    refine plainObj_wpAny_Assign_Attribute ?_
    refine ldL (v := v) hns2 mf rfl hF.kf hF.dbg (ldL (v := .ref x) hns2 ms rfl l1 (by decide) ?_)
    refine set_plain X2 (ox := excO C t1) (od := none) ⟨hx2, rfl, rfl, trivial⟩ T.sa ?_
    refine exc_osa X2 hx2 hcl (show refsVE (.ref C :: bm) = true from hbm) rfl noN (fun h3 tk3 dx k3 dn dne hx3 hn3 => ?_)
    refine wpAt_of_wpAny (wpAny_execs_nil (hq h3 tk3 dx ⟨fun b o nb z => k3 b o nb (S.keep b o nb (kk b o z)), ⟨t1, hx3⟩, ?_, dne, hn3⟩))
    obtain ⟨oL, _, _, hoL, _⟩ := hns2
    exact Nat.le_trans (Nat.le_of_lt (Heap.lt_size hoL)) dn
/-- a made error of one argument -/
structure Own1 (h h' : Heap) (e C d : Addr) (f : Str) (v : Value) : Prop where
  keep : ∀ b o, h.get? b = some o → h'.get? b = some o
  new : h.objs.size ≤ e
  obj : ∃ oe vs, h'.get? e = some oe ∧ oe.cls = .ref C ∧ oe.dict = some d ∧ oe.data = .fields vs ∧ vs[1]? = some .none ∧ vs[2]? = some .none
  big : h.objs.size ≤ d
  ne : d ≠ e
  ns : h'.Ns1 d (fun y => if y = f then some v else none)
theorem fresh_of {hp : Heap} (X : K.In hp) {n : Nat} (h : hp.objs.size ≤ n) : K.lookup n = none := by
  cases e : K.lookup n with
  | none => rfl
  | some o => exact absurd (Nat.lt_of_lt_of_le (Heap.lt_size (X _ _ e)) h) (Nat.lt_irrefl _)
theorem made1 {f : Str} {p1 p2 a b c d e a' b' c' d' : Pos} {me : Expr} {v : Value}
    (T : Cls1 prog K mg nm C fI (args1 f p1 p2) [supS me a b c d e, keepS f a' b' c' d'] (scope1 f)) (X : K.In s.heap) (hg : s.heap.Ns mainGlobals mg) (hb : s.heap.Ns builtinsNs mb) (hbb : ∀ z : Str, z ≠ "__name__" → mb z = bootBuiltins z)
    (hlim : s.heap.NoLimit) (hroom : A.depth + 1 < recursionLimit) (hM : Msg me f v (scope1 f)) (hcdp : (c.endLine == d.line) = true) (hF : Fld f) (noN : findIn K (.ref C) f = some none)
    (hq : ∀ h' tk x dx, Own1 s.heap h' x C dx f v → R (.ok (.ret (.ref x))) { s with heap := h', toks := tk }) : codeAny (model prog w) A (.call (.ref C) ⟨[v], []⟩) R s := by
  obtain ⟨n, q, N, bs, bm, sn, sub, ab, col, dd, k0, k1, k2, k3, k5, hC, hbm⟩ := T.cls
  obtain ⟨hp, g, dr, tk, os⟩ := s
  have k : ∀ b o, hp.get? b = some o → ((hp.push (kdv_tup [v])).push (excO C hp.objs.size)).get? b = some o := fun b o z => Heap.get?_push_of_some _ (Heap.get?_push_of_some _ z)
  have hget : ((hp.push (kdv_tup [v])).push (excO C hp.objs.size)).get? (hp.objs.size + 1) = some (excO C hp.objs.size) := by heap_get
  refine call_own PySem.F.excBase_ValueError (fun Y => refsVE_contains Y bm hbm) (X _ _ hC) (looks_findIn X T.iC) (fun self => bind_fn X self T.tC) (size1 v) ?_
  refine init1 (mb := mb) (s := ⟨(hp.push (kdv_tup [v])).push (excO C hp.objs.size), g, dr, tk, os⟩) T (X.keeps k) (hg.keeps k) (hb.keeps k) hbb (hlim.keeps k) hget (fresh_of X (Nat.le_succ _)) hroom hM hcdp hF noN fun h' tk' dx Z => ?_
  have old : ∀ b o, hp.get? b = some o → h'.get? b = some o := fun b o z => Z.keep b o (Nat.ne_of_lt (Nat.lt_succ_of_lt (Heap.lt_size z))) (k b o z)
  have z : hp.objs.size + 1 + 1 ≤ dx := by
    have q := Z.big
    rw [Heap.size_push, Heap.size_push] at q
    exact q
  obtain ⟨t1, ho⟩ := Z.obj
  exact ⟨rfl, hq h' tk' (hp.objs.size + 1) dx ⟨old, Nat.le_succ _, ⟨_, _, ho, rfl, rfl, rfl, rfl, rfl⟩, Nat.le_trans (Nat.le_trans (Nat.le_succ _) (Nat.le_succ _)) z, Z.ne, Z.ns⟩⟩
end
/-! ### the texts of the messages -/
section
variable {f : Str} {sc : Scope}
/-- one part behind another, the field in {..!r} or {..}: a text | an int -/
theorem part_s {prog : Program} {w : World} {A : Around} {E : Value → Shared → Prop} {env : Env} {s : Shared} {m : Str → Option Value} {y : Str} {t : Tok} {p q : Pos} {Q : Value → Shared → Prop} (hF : sc.names.lookup f = some .local) (hk : sc.kind = .function) (hd : (f == ("__debug__" : Str)) = false) (he : env.scope = sc)
    (hn : s.heap.Ns env.locals m) (hv : m f = some (.str y t)) (hz : y.length ≤ sizeLine) (h : ∀ tk n, Q (.str y tk) { s with toks := n }) : wpAny (model prog w) A (eval (.FormattedValue (.Name f p) (-1) none q) env) Q E s := by
  refine wpAny_FormattedValue_plain (ldL hn hv (by rw [he]; exact hk) (by show env.scope.names.lookup f = _; rw [he]; exact hF) hd ?_)
  exact wpAny_formatField_str (h _ s.toks) (h _ _) hz
theorem part_r {prog : Program} {w : World} {A : Around} {E : Value → Shared → Prop} {env : Env} {s : Shared} {m : Str → Option Value} {y : Str} {t : Tok} {p q : Pos} {Q : Value → Shared → Prop} (hF : sc.names.lookup f = some .local) (hk : sc.kind = .function) (hd : (f == ("__debug__" : Str)) = false) (he : env.scope = sc)
    (hn : s.heap.Ns env.locals m) (hv : m f = some (.str y t)) (hz : (reprText y).length ≤ sizeLine) (h : ∀ tk n, Q (.str (reprText y) tk) { s with toks := n }) : wpAny (model prog w) A (eval (.FormattedValue (.Name f p) 114 none q) env) Q E s := by
  refine wpAny_FormattedValue_repr (ldL hn hv (by rw [he]; exact hk) (by show env.scope.names.lookup f = _; rw [he]; exact hF) hd ?_)
  exact pyReprObj_str (wpAny_formatField_str (h _ _) (h _ _) hz) hz
theorem part_i {prog : Program} {w : World} {A : Around} {E : Value → Shared → Prop} {env : Env} {s : Shared} {m : Str → Option Value} {i : Int} {t : Tok} {p q : Pos} {Q : Value → Shared → Prop} (hF : sc.names.lookup f = some .local) (hk : sc.kind = .function) (hd : (f == ("__debug__" : Str)) = false) (he : env.scope = sc)
    (hn : s.heap.Ns env.locals m) (hv : m f = some (.int i t)) (hz : i.natAbs.log2 < 1920) (h : ∀ tk n, Q (.str (toString i) tk) { s with toks := n }) : wpAny (model prog w) A (eval (.FormattedValue (.Name f p) (-1) none q) env) Q E s := by
  refine wpAny_FormattedValue_plain (ldL hn hv (by rw [he]; exact hk) (by show env.scope.names.lookup f = _; rw [he]; exact hF) hd ?_)
  exact wpAny_formatField_int hz (h _ _)
theorem app_le {a b : Str} {n m : Nat} (h1 : a.length ≤ n) (h2 : b.length ≤ m) : (a ++ b).length ≤ n + m := by
  have e : (a ++ b).length = a.length + b.length := Array.size_append ..
  omega
/-- f'c{f!r}' of a text -/
theorem msg_cr {y : Str} {t : Tok} {c : Str} {p q p1 p2 : Pos} {k : Nat} (hF : Fld f) (hc : c.length ≤ 1000) (hz : (reprText y).length ≤ 1000) : Msg (.JoinedStr [.Constant (.str c) k p1, .FormattedValue (.Name f p) 114 none q] p2) f (.str y t) (scope1 f) where
  call := fun env a b c' d e => ⟨_, call_eq e rfl⟩
  star := fun env => rfl
  swap := fun _ _ _ _ _ _ => rfl
  text := fun prog w A E env s m Q he hn hv h => by
    have z0 : (Str.empty ++ c).length ≤ 0 + 1000 := app_le (Nat.le_refl _) hc
    have z1 : (Str.empty ++ c ++ reprText y).length ≤ 0 + 1000 + 1000 := app_le z0 hz
    have b0 : (2000 : Nat) ≤ sizeLine := by rw [sizeLine_eq]; decide
    refine wpAny_JoinedStr ?_
    refine wpAny_Constant_str ⟨c, _, rfl, Nat.le_trans z0 (Nat.le_trans (by decide) b0), ?_⟩
    refine part_r (sc := scope1 f) hF.kf rfl hF.dbg he (s := { s with toks := s.toks + 1 }) hn hv (Nat.le_trans hz (Nat.le_trans (by decide) b0)) fun tk n => ⟨_, _, rfl, Nat.le_trans z1 b0, ?_⟩
    exact ⟨Nat.le_trans z1 b0, h _ _ _⟩
/-- f'c{f}' of an int -/
theorem msg_ci {i : Int} {t : Tok} {c : Str} {p q p1 p2 : Pos} {k : Nat} (hF : Fld f) (hc : c.length ≤ 1000) (hz : i.natAbs.log2 < 1920) (hs : (toString i : Str).length ≤ 1000) : Msg (.JoinedStr [.Constant (.str c) k p1, .FormattedValue (.Name f p) (-1) none q] p2) f (.int i t) (scope1 f) where
  call := fun env a b c' d e => ⟨_, call_eq e rfl⟩
  star := fun env => rfl
  swap := fun _ _ _ _ _ _ => rfl
  text := fun prog w A E env s m Q he hn hv h => by
    have z0 : (Str.empty ++ c).length ≤ 0 + 1000 := app_le (Nat.le_refl _) hc
    have z1 : (Str.empty ++ c ++ (toString i : Str)).length ≤ 0 + 1000 + 1000 := app_le z0 hs
    have b0 : (2000 : Nat) ≤ sizeLine := by rw [sizeLine_eq]; decide
    refine wpAny_JoinedStr ?_
    refine wpAny_Constant_str ⟨c, _, rfl, Nat.le_trans z0 (Nat.le_trans (by decide) b0), ?_⟩
    refine part_i (sc := scope1 f) hF.kf rfl hF.dbg he (s := { s with toks := s.toks + 1 }) hn hv hz fun tk n => ⟨_, _, rfl, Nat.le_trans z1 b0, ?_⟩
    exact ⟨Nat.le_trans z1 b0, h _ _ _⟩
/-- f'{f}c' of a text -/
theorem msg_sc {y : Str} {t : Tok} {c : Str} {p q p1 p2 : Pos} {k : Nat} (hF : Fld f) (hc : c.length ≤ 1000) (hz : y.length ≤ 1000) : Msg (.JoinedStr [.FormattedValue (.Name f p) (-1) none q, .Constant (.str c) k p1] p2) f (.str y t) (scope1 f) where
  call := fun env a b c' d e => ⟨_, call_eq e rfl⟩
  star := fun env => rfl
  swap := fun _ _ _ _ _ _ => rfl
  text := fun prog w A E env s m Q he hn hv h => by
    have z0 : (Str.empty ++ y).length ≤ 0 + 1000 := app_le (Nat.le_refl _) hz
    have z1 : (Str.empty ++ y ++ c).length ≤ 0 + 1000 + 1000 := app_le z0 hc
    have b0 : (2000 : Nat) ≤ sizeLine := by rw [sizeLine_eq]; decide
    refine wpAny_JoinedStr ?_
    refine part_s (sc := scope1 f) hF.kf rfl hF.dbg he hn hv (Nat.le_trans hz (Nat.le_trans (by decide) b0)) fun tk n => ⟨_, _, rfl, Nat.le_trans z0 (Nat.le_trans (by decide) b0), ?_⟩
    refine wpAny_Constant_str ⟨c, _, rfl, Nat.le_trans z1 b0, ?_⟩
    exact ⟨Nat.le_trans z1 b0, h _ _ _⟩
end
end Er
namespace L2
open PySem PySem.Spec PyProof.Rows Er
theorem relO_f1 {v : V} {v' : Value} (r : RelV v v') (f g : Str) : RelO (List.lookup g [(f, v)]) (if g = f then some v' else none) := by
  by_cases hw : g = f
  · rw [if_pos hw, hw]
    have q : List.lookup f [(f, v)] = some v := by simp [List.lookup]
    rw [q]
    exact r
  · rw [if_neg hw]
    have qw : (g == f) = false := by simpa using hw
    have q2 : List.lookup g [(f, v)] = none := by simp [List.lookup, qw]
    rw [q2]
    trivial
section
variable {X : Cx} {C fI : Addr} {nm f : Str} {me : Expr} {p1 p2 a b c d e a' b' c' d' : Pos}
def tMk1 (C : Addr) (f : Str) (me : Expr) (ta : TA) : St → Hp → XK → Prop := fun σ H Q => ta σ H fun vs H1 => ∃ v, vs = [v] ∧ (∀ u, RelV v u → Msg me f u (scope1 f)) ∧ ∀ d, H1 d = none → Q (.ref C) (some d) (upd H1 d (.xd [(f, v)]))
theorem pmk1 {x : Expr} {ta : TA} {p pos : Pos} {k : Nat} (T : Cls1 X.prog X.K X.mg nm C fI (args1 f p1 p2) [supS me a b c d e, keepS f a' b' c' d'] (scope1 f)) (hcdp : (c.endLine == d.line) = true) (hF : Fld f) (noN : PySem.W.findIn X.K (.ref C) f = some none) (hr : Room k X.A) (ha : PA X [x] ta) (hg : Gl X nm) (hdb : (nm == ("__debug__" : Str)) = false)
    (he : starEach (x :: []) X.env = (false, eval x X.env) :: starEach [] X.env := by rfl) (hpl : (backTo pos (starEach [] X.env)).any (·.1) = false := by rfl) :
    L2N.PMk X (.Call (.Name nm p) [x] [] pos) (tMk1 C f me ta) := by
  intro pins s σ H Q I h
  refine wpAny_Call_Name_kw (ld_glob I hg T.gC ?_ hdb)
  refine PySem.W.callWith_K (h₀ := X.base) I.ok.mod.kin T.kC (thn (ha.run pos pins s σ H _ I h) fun us s1 hh => ?_) he hpl
  obtain ⟨vs, H1, I1, r1, v, ev, hM, q1⟩ := hh
  subst ev
  refine ⟨I1.kIn, ?_⟩
  cases r1 with
  | cons rv rn =>
    rename_i v' us'
    cases rn
    show wpAny _ _ (call (.ref C) [v']) _ _ _
    have hlim := I1.nolimit
    obtain ⟨mb, hb1, hb2⟩ := I1.mod.blt
    have hgl := I1.mod.glob.keeps I1.bk
    have hbl := hb1.keeps I1.bk
    obtain ⟨hp, g, dr, tk, os⟩ := s1
    refine wpAny_call (made1 (mb := mb) T I1.kIn hgl hbl hb2 hlim (by have := hr.dp; omega) (hM v' rv) hcdp hF noN fun h' tk' e d M => ?_)
    show L2N.MkP X pins σ Q (.ref e) ⟨h', g, dr, tk', os⟩
    obtain ⟨oe, fv, hoe, hc, hd, hdat, h1, h2⟩ := M.obj
    have hz : L2N.Zn (.ref C) _ oe := ⟨hc, hd, fun vs' e' => by
      rw [hdat] at e'
      cases e'
      exact h2⟩
    have hns := M.ns
    obtain ⟨G', g1, g2⟩ := restrict h' fun b => decide (b ≠ e)
    have gk : ∀ b, b ≠ e → G'.get? b = h'.get? b := fun b hb => g1 b (decide_eq_true hb)
    have ge : G'.get? e = none := g2 e (by simp)
    have old : ∀ b o, hp.get? b = some o → G'.get? b = some o := fun b o q => (gk b (Nat.ne_of_lt (Nat.lt_of_lt_of_le (Heap.lt_size q) M.new))).trans (M.keep b o q)
    have ob : ObjOk X.prog X.w (upd H1 d (.xd [(f, v)])) G' d (.xd [(f, v)]) :=
      ⟨_, hns.at (fun o q => (gk d M.ne).trans q), fun g => relO_f1 rv f g⟩
    have J : Inv X pins σ (upd H1 d (.xd [(f, v)])) ⟨G', g, dr, tk', os⟩ := I1.laid (t' := tk') old M.big ob
    refine ⟨e, oe, fv, ⟨G', g, dr, tk', os⟩, _, .ref C, some d, rfl, J, fun b o q => ?_, ge, hoe, hz, hdat, h1, ?_, rfl, I1.bare, raises_own T.exC T.tyC, q1 d (I1.hok.fresh M.big)⟩
    · by_cases hb : b = e
      · have q' : G'.get? b = some o := q
        rw [hb, ge] at q'
        cases q'
      · exact (gk b hb).symm.trans q
    · rw [upd_ne (Ne.symm M.ne)]
      exact I1.hok.fresh M.new
end
/-! ### defs that let out errors whose context is None; defs called within an except suite -/
section
variable {P : Program} {w : World} {K : PySem.W.Frag} {mg : Str → Option Value} {base : Heap}
theorem Fun.okN {x qual : Str} {st : Stmt} {f : Addr} {fd : FuncData} {N ps : List Str} {k : Nat} {sp : Sp} (F : Fun K x qual st f fd) (S : FnScope N ps (defScope st)) (len : ∀ vs H Q E, sp vs H Q E → vs.length = ps.length)
    (hbody : ∀ (cdv : Value) (A : Around) (outer : List Env) (s : Shared) (H : Hp) (vs : List V) (Q : VK) (E : XK), Room k (A.deeper (envOfC qual (defScope st) s.heap.objs.size f cdv)) → sp vs H Q E →
      ∃ t, PSs (cxOf (L2N.CX P w) P w K mg base N qual (defScope st) f cdv A outer s H E) (defBody st) t ∧ t { nx := fun _ H' => Q .non H', rt := Q } (start N vs) H) : FnOk P w K mg base (L2N.CX P w) (k + 1) f fd ps sp := by
  obtain ⟨oc, od, kV, doc, pm, an, cdv, ct, osl, rfl, lk, hcd⟩ := F.ex
  exact fn_of lk hcd S len fun A outer s H vs Q E hr hsp => hbody cdv A outer s H vs Q E hr hsp
end
end L2
/-! Own objects: str(o) by the class's own __str__; // by any divisor other than zero; errors of a call in a try body whatever the slots hold. -/
namespace L2
open PySem PySem.Spec PyProof.Rows Er
section
variable {X : Cx}
/-- the same place, n units further in -/
theorem Inv.in1 {pins : List (Addr × Obj)} {σ : St} {H : Hp} {s : Shared} (I : Inv X pins σ H s) (n : Nat) : Inv { X with A := { X.A with units := n } } pins σ H s :=
  ⟨⟨I.ok.mod, I.ok.kind, I.ok.glob, I.ok.blt, I.ok.above, I.ok.inj, I.ok.has, I.ok.cab, I.ok.hd, I.ok.frames, I.ok.stk, I.ok.exf, I.ok.bs, I.ok.bsz, I.ok.noex, I.ok.exfs, I.ok.funs, I.ok.frf⟩,
    I.os, I.bare, I.base, I.loc, I.cell, I.free, I.freeC, I.pin, I.hok, I.len⟩
theorem Inv.out1 {pins : List (Addr × Obj)} {σ : St} {H : Hp} {s : Shared} {n : Nat} (I : Inv { X with A := { X.A with units := n } } pins σ H s) : Inv X pins σ H s :=
  ⟨⟨I.ok.mod, I.ok.kind, I.ok.glob, I.ok.blt, I.ok.above, I.ok.inj, I.ok.has, I.ok.cab, I.ok.hd, I.ok.frames, I.ok.stk, I.ok.exf, I.ok.bs, I.ok.bsz, I.ok.noex, I.ok.exfs, I.ok.funs, I.ok.frf⟩,
    I.os, I.bare, I.base, I.loc, I.cell, I.free, I.freeC, I.pin, I.hok, I.len⟩
end
end L2
/-! A static method called by its class's name; a display whose first item is a written text and more (so that a token is out behind it). -/
namespace L2
open PySem PySem.Spec PyProof.Rows Er
end L2
namespace Er
open PySem PySem.W PySem.Calls PyProof.Rows PySem.HandSPX
end Er
/-! Own operators: o + o, o + 3, 3 + o, o += .., -o, o < o, .. by the class's own methods. -/
namespace L2
open PySem PySem.Spec PyProof.Rows Er
section
variable {prog : Program} {w : World} {A : Around} {E : Value → Shared → Prop} {s : Shared} {K : PySem.W.Frag} {x C dx f g : Addr} {ox : Obj} {od : Option Obj} {Q : Value → Shared → Prop} {i : Int} {t : Tok}
/-- the class at C stands right above object -/
def mro2 (K : PySem.W.Frag) (C : Addr) : Bool := (PySem.W.clsIn K C).any fun cd => cd.mro == [Value.ref C, Value.type "object"]
end
section
variable {X : Cx}
theorem inst_of' {pins : List (Addr × Obj)} {σ : St} {H : Hp} {s : Shared} (I : Inv X pins σ H s) {a C dx : Addr} {fs : List (Str × V)} (h : H a = some (.ins C dx fs)) : ∃ od, PySem.W.InstAt s.heap a (PySem.W.instObj C dx) C od := by
  obtain ⟨mA, O, _, _, _, _⟩ := ins_get I.hok h
  obtain ⟨od, ho, _⟩ := lookIn_ns O.ns
  exact ⟨some od, O.obj, rfl, rfl, ho⟩
variable {CX1 CX2 : CXT} {C f g : Addr} {fd gd : FuncData} {k k2 : Nat} {spF spR : Sp} {E E2 : XK} {op : Operator} {gi : Int → Int → V}
end
end L2
/-! Comparisons with own objects on either side; abs(o), bool(o) by the class's own methods. -/
namespace L2
open PySem PySem.Spec PyProof.Rows Er
end L2
/-! A set of texts: set(list of texts), sorted(set), len(set), in. -/
namespace L2
open PySem PySem.Spec PyProof.Rows Er PySem.Froz
abbrev newS (w : World) : Obj := { cls := .type "set", dict := none, data := .set #[] 0 (.fresh 0 0 (!w.params.followText "set-order")) }
/-- one more text -/
def put1 (l : List Str) (k : Str) : List Str := if k ∈ l then l else k :: l
def putL (xs : List Str) : List Str := xs.foldl put1 []
theorem put1_nd {l : List Str} {k : Str} (h : l.Nodup) : (put1 l k).Nodup := by
  unfold put1; split
  · exact h
  · rename_i c; exact List.nodup_cons.mpr ⟨c, h⟩
theorem put1_mem {l : List Str} {k x : Str} : x ∈ put1 l k ↔ x ∈ l ∨ x = k := by
  unfold put1; split
  · rename_i c; exact ⟨.inl, fun z => z.elim id fun e => e ▸ c⟩
  · rw [List.mem_cons]; exact Or.comm
theorem put1_len {l : List Str} {k : Str} : (put1 l k).length ≤ l.length + 1 := by
  unfold put1; split
  · omega
  · simp
theorem putL_step (xs : List Str) (k : Str) : putL (xs ++ [k]) = put1 (putL xs) k := by unfold putL; rw [List.foldl_append] <;> rfl
theorem foldl_put1 : ∀ (xs l : List Str), l.Nodup → (xs.foldl put1 l).Nodup ∧ (∀ x, x ∈ xs.foldl put1 l ↔ x ∈ l ∨ x ∈ xs) ∧ (xs.foldl put1 l).length ≤ l.length + xs.length
  | [], l, h => ⟨h, fun x => by simp, by simp⟩
  | k :: xs, l, h => by
    obtain ⟨a, b, c⟩ := foldl_put1 xs (put1 l k) (put1_nd h)
    refine ⟨a, fun x => ?_, ?_⟩
    · rw [List.foldl_cons, b x, put1_mem, List.mem_cons, or_assoc]
    · have := put1_len (l := l) (k := k)
      rw [List.foldl_cons, List.length_cons]; omega
theorem putL_nd (xs : List Str) : (putL xs).Nodup := (foldl_put1 xs [] .nil).1
theorem putL_mem {xs : List Str} {x : Str} : x ∈ putL xs ↔ x ∈ xs := by
  have h := (foldl_put1 xs [] .nil).2.1 x
  simpa [putL] using h
theorem putL_len (xs : List Str) : (putL xs).length ≤ xs.length := by
  have h := (foldl_put1 xs [] .nil).2.2
  simpa [putL] using h
structure SetS (P : Program) (w : World) (h : Heap) (a : Addr) (l : List Str) : Prop where
  it : ∃ D : SD, h.get? a = some (sObj "set" D) ∧ TxOk P w D l ∧ Ris D.2.2.place.toList ∧ (w.params.followText "set-order" = true ∨ D.2.2.led = true)
section
variable {P : Program} {w : World} {A : Around} {E : Value → Shared → Prop} {s : Shared}
theorem SetS.keep {h h' : Heap} {a : Addr} {l : List Str} (R : SetS P w h a l) (k : ∀ o, h.get? a = some o → h'.get? a = some o) : SetS P w h' a l := by
  obtain ⟨D, x, y⟩ := R.it
  exact ⟨D, k _ x, y⟩
theorem setS_new {h : Heap} {a : Addr} (ho : h.get? a = some (newS w)) : SetS P w h a [] :=
  ⟨(#[], 0, .fresh 0 0 (!w.params.followText "set-order")), ho, TxOk.nil (by rfl), List.Pairwise.nil, by
    show _ ∨ (!w.params.followText "set-order") = true
    cases w.params.followText "set-order" <;> simp⟩
theorem tail_ris {ep : Nat} {es : Array (Int × Value)} {t : SetTable} {b : Bool} (r : Ris t.place.toList) : Ris (tailTx ep es t b).2.2.place.toList := by
  unfold tailTx; split
  · exact relayAll_ris _ _ _
  · exact r
theorem tail_led {ep : Nat} {es : Array (Int × Value)} {t : SetTable} {b : Bool} : (tailTx ep es t b).2.2.led = t.led := by
  unfold tailTx; split
  · exact relayAll_led _ _ _
  · rfl
theorem add_ris {D : SD} (h : Int) (v : Value) (r : Ris D.2.2.place.toList) : Ris (addTx h v D).2.2.place.toList := by
  unfold addTx
  refine tail_ris ?_
  have z := layNew_ris D.2.2 D.1 h v r
  split <;> exact z
theorem add_led {D : SD} (h : Int) (v : Value) : (addTx h v D).2.2.led = D.2.2.led := by
  unfold addTx
  rw [tail_led]
  have z := layNew_led D.2.2 D.1 h v
  split <;> exact z
/-- a text that the set has already -/
theorem old_x {a : Addr} {D : SD} {l : List Str} {k : Str} {u : Tok} {Q : Bool → Shared → Prop} (ho : s.heap.get? a = some (sObj "set" D)) (F : TxOk P w D l) (hk : k ∈ l) (hb : l.length < scanBound)
    (h : Q false s) : wpAny (model P w) A (setAddHashed a (.str k u) (hashStr w k)) Q E s := by
  obtain ⟨es, ep, t⟩ := D
  have dat : (sObj "set" (es, ep, t)).data = .set es ep t := rfl
  have few : es.size < scanBound := by have z : es.size = l.length := F.sz; omega
  have key : (strKind P w).is k (.str k u) = true := is_str k u
  unfold setAddHashed setAddHashedIn
  apply wpAny_holding; apply wpAny_bind
  refine wpAny_setState_of ho dat F.fit ?_
  simp only [byScan_of (x := Value.str k u) rfl few F.el, ↓reduceIte]
  unfold setAddByScan
  apply wpAny_bind; apply wpAny_bind; apply wpAny_rule; apply wpAny_bind
  refine wpAny_setScan_of (knd := strKind P w) (k := k) key ho dat F.fit F.el ?_
  obtain ⟨e, he, pe⟩ := (F.mem k).mp hk
  cases hr : List.findIdx? (fun e => (strKind P w).is k e.2) es.toList with
  | none => exact absurd (List.findIdx?_eq_none_iff.mp hr e he) (by rw [pe]; decide)
  | some j => exact wpAny_pure (wpAny_pure h)
theorem setS_add {a : Addr} {l : List Str} {k : Str} {u : Tok} {Q : Bool → Shared → Prop} (R : SetS P w s.heap a l) (hb : l.length + 1 < scanBound)
    (h : ∀ h', Heap.SameBut a s.heap h' → SetS P w h' a (put1 l k) → Q (decide (k ∉ l)) { s with heap := h' }) : wpAny (model P w) A (setAddHashed a (.str k u) (hashStr w k)) Q E s := by
  obtain ⟨D, ho, F, r, d⟩ := R.it
  by_cases c : k ∈ l
  · have q := h s.heap (Heap.SameBut.refl a s.heap) (by unfold put1; rw [if_pos c]; exact R)
    rw [show decide (k ∉ l) = false from by simp [c]] at q
    exact old_x ho F c (by omega) q
  · have q := h _ (Heap.SameBut.update s.heap a _) ⟨addTx (hashStr w k) (.str k u) D, get_upd _ ho rfl, by unfold put1; rw [if_neg c]; exact add_ok u F, add_ris _ _ r, by rw [add_led]; exact d⟩
    rw [show decide (k ∉ l) = true from by simp [c]] at q
    exact add_x ho F c hb q
/-- the texts are put in one by one -/
theorem update_texts {I : Addr} {fp wr : List Addr} {G : Array GenState → Array GenState → Prop} {n : Nat} {Pv : Nat → Value → Prop} {St : Nat → Shared → Prop} {R : Result → Shared → Prop} (S : Addr) (xs : List Str)
    (W : WalksS P w A.in1 I fp wr G n Pv St) (off : S ∉ fp) (hn : n = xs.length) (room : xs.length + 1 < scanBound) (val : ∀ i v, Pv i v → ∃ k t, xs[i]? = some k ∧ v = .str k t) :
    ∀ (m i : Nat) (s : Shared), i + m = n → St i s → SetS P w s.heap S (putL (xs.take i)) → (∀ s', Moved (S :: wr) G s s' → SetS P w s'.heap S (putL xs) → R (.ok (.ret .none)) s') →
      codeAny (model P w) A (.builtin "set.update.loop" ⟨[.ref S, .ref I], []⟩) R s := by
  have offw : S ∉ wr := fun z => off (W.sub _ z)
  have wide : ∀ b ∈ wr, b ∈ S :: wr := fun b z => List.mem_cons_of_mem _ z
  intro m
  induction m with
  | zero =>
    intro i s e st hS fin
    have all : xs.take i = xs := List.take_of_length_le (by omega)
    rw [all] at hS
    apply codeAny_builtin PyProof.Rows.F.entry_set_update_loop
    rw [Around.under_plainId PyProof.Rows.F.plain_set_update_loop _]
    have en : i = n := by omega
    subst en
    exact wpAny_bind (W.done s _ _ st fun s' mv => wpAny_pure (fin s' (mv.mono wide) (hS.keep fun o z => mv.heap S o offw z)))
  | succ m ih =>
    intro i s e st hS fin
    apply codeAny_builtin PyProof.Rows.F.entry_set_update_loop
    rw [Around.under_plainId PyProof.Rows.F.plain_set_update_loop _]
    apply wpAny_bind
    refine W.item i s _ _ (by omega) st fun v s' pv st' mv => ?_
    obtain ⟨k, t, hk, rfl⟩ := val i v pv
    have hS' : SetS P w s'.heap S (putL (xs.take i)) := hS.keep fun o z => mv.heap S o offw z
    have hlen : (putL (xs.take i)).length + 1 < scanBound := by
      have z := putL_len (xs.take i)
      rw [List.length_take] at z
      omega
    have next : put1 (putL (xs.take i)) k = putL (xs.take (i + 1)) := by rw [List.take_add_one, hk, ← putL_step] <;> rfl
    show wpAny _ A.in1 (holding [Value.str k t] (setAdd S (.str k t)) >>= fun _ => again _) _ _ s'
    apply wpAny_bind; apply wpAny_holding
    unfold setAdd
    apply wpAny_holding; apply wpAny_bind
    refine (strKind P w).pyHash (k := k) (is_str k t) ?_
    refine setS_add (s := { s' with toks := s'.toks + 1 }) hS' hlen fun h' same new => ?_
    rw [next] at new
    have oth : ∀ b o, b ≠ S → s'.heap.get? b = some o → h'.get? b = some o := fun b o nb z => (same.2 b nb).trans z
    refine wpAny_pure ⟨plainId_quiet PyProof.Rows.F.plain_set_update_loop _, ih (i + 1) { s' with heap := h', toks := s'.toks + 1 } (by omega) (W.frame _ s' _ _ st' (Nat.le_succ _) fun b hb o z => oth b o (fun y => off (y ▸ hb)) z) new fun s'' mv' hS'' => ?_⟩
    exact fin s'' (Moved.trans W.gtrans ((mv.mono wide).then_heap (Nat.le_succ _) fun b o nb z => oth b o (fun y => nb (y ▸ List.mem_cons_self)) z) mv') hS''
theorem text_at : ∀ {us : List Value} {xs : List Str}, StrsAre us xs → ∀ (i : Nat) (v : Value), us[i]? = some v → ∃ k u, xs[i]? = some k ∧ v = .str k u
  | _, _, .nil, i, v, e => by simp at e
  | _, _, .cons x u r, 0, v, e => ⟨x, u, rfl, by simpa using e.symm⟩
  | _, _, .cons x u r, i + 1, v, e => by simpa using text_at r i v (by simpa using e)
theorem size_new (h : Heap) (o : Obj) : (h.push o).objs.size = h.objs.size + 1 := Heap.size_push h o
/-- set(l), l a list of texts -/
theorem set_texts {l : Addr} {its : Array Value} {xs : List Str} {Q : Value → Shared → Prop} (calm : A.handled = none) (hl : s.heap.IsList l its) (tx : StrsAre its.toList xs) (room : xs.length + 1 < scanBound)
    (h : ∀ (h' : Heap) (tk : Nat), SetS P w h' s.heap.objs.size (putL xs) → (∀ b o, s.heap.get? b = some o → h'.get? b = some o) → Q (.ref s.heap.objs.size) { s with heap := h', toks := tk }) :
    wpAny (model P w) A (call (.type "set") [.ref l]) Q E s := by
  have cnt : its.size = xs.length := by rw [← StrsAre.len_eq tx, Array.length_toList]
  obtain ⟨c, tl, order⟩ := PySem.F.called_set.mro
  have built := PySem.F.called_set.made
  have under := PySem.F.called_set.sub
  apply wpAny_call; apply codeAny_of_tree
  show wpAny _ _ (callAny (.type "set") ⟨[.ref l], []⟩) _ _ s
  refine wpAny_pure ⟨Code.quiet_builtin _ (by decide +kernel), ?_⟩
  apply codeAny_builtin PySem.F.entry_type_call
  rw [Around.under_plain (weight_type_call_type "set" [.ref l] []) rfl]
  have no := PySem.F.called_set.notType
  have may := PySem.F.called_set.canCreate
  have one := PySem.F.typeCall_set_1 (.ref l)
  repeat (any_goals (first | assumption | wp_step))
  refine codeAny_mono (code_set_led1 (.ref l) (E := E) (Q₁ := fun r s₁ => r = .ref s.heap.objs.size ∧ s₁ = { s with heap := s.heap.push (newS w) }) ⟨rfl, rfl⟩) fun r s₁ got => ?_
  match r, got with
  | .ok (.ret r), ⟨e1, e2⟩ =>
    subst e1; subst e2
    have at0 : (s.heap.push (newS w)).get? s.heap.objs.size = some (newS w) := Heap.get?_push_size _ rfl
    have kind : Shared.TypeIs { s with heap := s.heap.push (newS w) } (.ref s.heap.objs.size) "set" := ⟨_, at0, rfl⟩
    have look := PySem.F.called_set.init.lookup
    have bind := PySem.F.called_set.init.bind (.ref s.heap.objs.size)
    repeat (any_goals (first | assumption | wp_step))
    refine codeAny_mono (codeAny_call_builtin (R := wants (fun r s₂ => r = .none ∧ ∃ h' tk, s₂ = { s with heap := h', toks := tk } ∧ SetS P w h' s.heap.objs.size (putL xs) ∧ ∀ b o, s.heap.get? b = some o → h'.get? b = some o) E) PySem.F.called_set.init.plain PySem.F.entry_set_init (check_set_init_1 kind ?_)) fun r₂ s₂ got₂ => ?_
    · have far : l < s.heap.objs.size := by obtain ⟨o, z, _⟩ := hl; exact Heap.lt_size z
      have hl0 : (s.heap.push (newS w)).IsList l its := hl.push _
      obtain ⟨⟨cl, di, da, sl⟩, atl, ecl, ct, eda⟩ := hl0
      simp only at ecl eda
      subst ecl; subst eda
      have d1 := PySem.F.sub_list_set
      have d2 := PySem.F.sub_list_frozenset
      have d3 : (Value.type "list" == Value.type "dict") = false := by decide
      have hl1 : (s.heap.push (newS w)).IsList l its := ⟨_, atl, rfl, ct, rfl⟩
      unfold Builtin.«set.__init__» noKeywords Builtin.Frozenset.updateFrom
      generalize walkIt : pyIter = PW
      wp_walk
      subst walkIt
      refine wpAny_pyIter_list hl1 (wpAny_bind (wpAny_runValue ?_))
      have calm3 : A.in1.in1.in1.handled = none := by simp [calm]
      have sz := size_new s.heap (newS w)
      have n1 : l ≠ (s.heap.push (newS w)).objs.size := by rw [sz]; exact Nat.ne_of_lt (Nat.lt_succ_of_lt far)
      have n2 : s.heap.objs.size ∉ [(s.heap.push (newS w)).objs.size, l] := by
        simp only [List.mem_cons, List.not_mem_nil, or_false, not_or, sz]; exact ⟨Nat.ne_of_lt (Nat.lt_succ_self _), Nat.ne_of_gt far⟩
      refine update_texts s.heap.objs.size xs ((Walks.list calm3 _ l n1 its).toS) n2 cnt room (fun i v e => text_at tx i v (by rw [Array.getElem?_toList]; exact e)) its.size 0 _ (by omega) ⟨⟨_, Heap.get?_push_size _ rfl, rfl, rfl⟩, hl1.push _⟩
        (setS_new (Heap.get?_push_of_some _ at0)) ?_
      intro s' mv new
      obtain ⟨h', g', d', tk', o'⟩ := s'
      obtain rfl : g' = s.gens := mv.gens
      obtain rfl : d' = s.drawn := mv.drawn
      obtain rfl : o' = s.os := mv.os
      refine wpAny_pure (wpAny_pure ⟨rfl, h', tk', rfl, new, fun b o z => ?_⟩)
      have lt := Heap.lt_size z
      refine mv.heap b o ?_ (Heap.get?_push_of_some _ (Heap.get?_push_of_some _ z))
      simp only [List.mem_cons, List.not_mem_nil, or_false, not_or, sz]
      exact ⟨Nat.ne_of_lt lt, Nat.ne_of_lt (Nat.lt_succ_of_lt lt)⟩
    · match r₂, got₂ with
      | .ok (.ret r), ⟨e1, h', tk, e2, new, keep⟩ =>
        subst e1; subst e2
        repeat (any_goals (first | assumption | wp_step))
        exact h _ _ new keep
      | .error e, z => exact z
  | .error e, z => exact z
end
end L2
namespace L2
open PySem PySem.Spec PyProof.Rows Er PySem.Froz
section
variable {P : Program} {w : World} {A : Around} {E : Value → Shared → Prop} {s : Shared}
theorem el_text {e : Int × Value} (h : (∃ k, (PySem.strKind P w).is k e.2 = true ∧ e.1 = (PySem.strKind P w).hash k) ∧ e.2.scannable = true) : ∃ x u, e.2 = .str x u := by
  obtain ⟨⟨k, z, _⟩, _⟩ := h
  obtain ⟨u, y⟩ := Value.isStrOf_shape z
  exact ⟨k, u, y⟩
theorem perm_of_sub : ∀ {l m : List Str}, l.Nodup → (∀ x ∈ l, x ∈ m) → m.length ≤ l.length → l.Perm m
  | [], m, _, _, h => by rw [List.eq_nil_of_length_eq_zero (Nat.le_zero.mp h)]
  | x :: l, m, nd, sub, h => by
    obtain ⟨n1, n2⟩ := List.nodup_cons.mp nd
    have hx : x ∈ m := sub x List.mem_cons_self
    have pe := List.perm_cons_erase hx
    refine (List.Perm.cons x (perm_of_sub n2 (fun y hy => ?_) ?_)).trans pe.symm
    · exact (List.mem_erase_of_ne (fun (e : y = x) => n1 (by rw [← e]; exact hy))).mpr (sub y (List.mem_cons_of_mem _ hy))
    · have z := pe.length_eq
      simp only [List.length_cons] at z h
      omega
/-- the texts that the set's entries hold are the list's, in another order -/
theorem tx_texts {D : SD} {l : List Str} (F : TxOk P w D l) (nd : l.Nodup) : (D.1.toList.map fun e => strOf e.2).Perm l := by
  have key : ∀ e ∈ D.1.toList, (PySem.strKind P w).is (strOf e.2) e.2 = true := fun e he => by
    obtain ⟨x, u, z⟩ := el_text (F.el e he)
    rw [z]; exact is_str x u
  refine (perm_of_sub nd (fun k hk => ?_) ?_).symm
  · obtain ⟨e, he, z⟩ := (F.mem k).mp hk
    exact List.mem_map.mpr ⟨e, he, (PySem.strKind P w).inj e.2 _ _ (key e he) z⟩
  · rw [List.length_map, Array.length_toList, F.sz]; exact Nat.le_refl _
/-- sorted(a), a set of texts -/
theorem sorted_textset {a : Addr} {l : List Str} {Q : Value → Shared → Prop} (calm : A.handled = none) (R : SetS P w s.heap a l) (nd : l.Nodup) (room : l.length < scanBound)
    (h : ∀ (s' : Shared) (p : Addr) (out : Array Value) (c : Nat) (ss : List Str), (∀ b o, s.heap.get? b = some o → s'.heap.get? b = some o) → s'.gens = s.gens → s'.os = s.os → s.heap.objs.size ≤ p →
      s'.heap.get? p = some (seqObj "list" out c) → StrsAre out.toList ss → ss.Perm l → sortedS ss = true → Q (.ref p) s') :
    wpAny (model P w) A (call (.builtin "sorted") [.ref a]) Q E s := by
  obtain ⟨⟨es, ep, t⟩, ho, F, ris, led⟩ := R.it
  have sz : es.size = l.length := F.sz
  refine Calls.call_function_entry kind_sorted plain_sorted entry_sorted (args_sorted1 _) ?_
  unfold Builtin.«sorted»
  refine wpAny_bind (m := checkCount "sorted" 1 1 _) (wpAny_pure ?_)
  apply wpAny_bind
  refine collect_set (A := A.in1) calm ⟨_, ho, rfl, rfl⟩ F.fit (by rw [sz]; exact room) ris led fun s1 vs keep le eg eo pm => ?_
  have len : vs.length = l.length := by rw [pm.length_eq, List.length_map, Array.length_toList, sz]
  have tx : StrsAre vs (vs.map strOf) := strsAre_map vs fun v hv => by
    obtain ⟨e, he, rfl⟩ := List.mem_map.mp (pm.mem_iff.mp hv)
    exact el_text (F.el e he)
  have pl : (vs.map strOf).Perm l := by
    have z := pm.map strOf
    rw [List.map_map] at z
    exact z.trans (tx_texts F nd)
  have big : vs.length ≤ sizeLine := by rw [len]; exact fits_of_scanBound room
  refine wpAny_bind (wpAny_newList ?_ big)
  have at1 : (s1.heap.push (seqObj "list" vs.toArray 0)).get? s1.heap.objs.size = some (seqObj "list" vs.toArray 0) := Heap.get?_push_size _ rfl
  apply wpAny_bind; apply wpAny_holding
  refine wpAny_call_entry slot_list_sort ⟨_, at1, rfl⟩ entry_list_sort (list_sort_treeKAny strKind_oneLt at1 tx.keysOf (fun v₁ v₂ r e => keyKind_strs (by rw [← e]; exact tx)) big fun st' q1 q2 => ⟨_, rfl, ?_⟩) (args_list_sort _)
  obtain ⟨ss, t1, t2, t3⟩ := sorted_out_str tx q1 q2
  obtain ⟨c, hc⟩ := sortedHeap_at (vs := vs) (out := (arrOf st').map (·.2)) at1
  refine wpAny_pure ⟨_, rfl, h _ s1.heap.objs.size _ c ss (fun b o z => ?_) eg eo le hc t1 (t2.trans pl) t3⟩
  have y := keep b o z
  have lt := Heap.lt_size y
  show (sortedHeap (s1.heap.push (seqObj "list" vs.toArray 0)) s1.heap.objs.size vs ((arrOf st').map (·.2))).get? b = some o
  rw [sortedHeap_old (Nat.ne_of_lt lt) (by rw [size_new]; exact Nat.lt_succ_of_lt lt)]
  exact Heap.get?_push_of_some _ y
end
def SetSO (P : Program) (w : World) (a : Addr) (l : List Str) : HO := .ext fun h => SetS P w h a l
section
variable {X : Cx}
theorem setSO_new {w : World} {P : Program} {H : Hp} {h : Heap} {a : Addr} {l : List Str} (R : SetS P w h a l) : ObjOk P w H h a (SetSO P w a l) := by
  obtain ⟨D, z, _⟩ := R.it
  exact ⟨R, ⟨_, z⟩, fun h1 h2 p k => p.keep k⟩
/-- set(xs), xs a list of texts -/
def rSetS (X : Cx) : List V → Hp → VK → Prop := fun vs H Q => ∃ (l : Addr) (xs : List Str), vs = [V.ref l] ∧ SqL X.K H l (xs.map V.str) ∧ xs.length + 1 < 4096 ∧ ∀ p, H p = none → Q (.ref p) (upd H p (SetSO X.prog X.w p (putL xs)))
theorem cr_setS (hc : X.calm = true) : CallR X (.type "set") (rSetS X) := by
  intro pins s σ H vs us Q I r h
  obtain ⟨l, xs, rfl, hl, few, q⟩ := h
  rw [Vals.ref1 r]
  obtain ⟨its, rv, pl, _⟩ := I.list hl
  refine set_texts (P := X.prog) (w := X.w) (xs := xs) (I.ok.hd hc) pl.isList (by simpa using strsAre_of rv) (by unfold scanBound; exact few) fun h' tk R keep => ?_
  exact ⟨.ref s.heap.objs.size, _, I.laid (t' := tk) keep (Nat.le_refl _) (setSO_new R), rfl, q _ (I.hok.fresh (Nat.le_refl _))⟩
/-- sorted(a), a a set of texts -/
def rSrtS (X : Cx) : List V → Hp → VK → Prop := fun vs H Q => ∃ (a : Addr) (l : List Str), vs = [V.ref a] ∧ H a = some (SetSO X.prog X.w a l) ∧ l.Nodup ∧ l.length < 4096 ∧
  ∀ (ss : List Str) (p : Addr), ss.Perm l → sortedS ss = true → H p = none → Q (.ref p) (upd H p (.lst (ss.map V.str)))
theorem cr_srtS (hc : X.calm = true) : CallR X (.builtin "sorted") (rSrtS X) := by
  intro pins s σ H vs us Q I r h
  obtain ⟨a, l, rfl, ha, nd, few, q⟩ := h
  rw [Vals.ref1 r]
  have R : SetS X.prog X.w s.heap a l := (I.hok a _ ha).1
  have room : l.length < scanBound := by unfold scanBound; exact few
  refine sorted_textset (I.ok.hd hc) R nd room fun s' p out c ss keep eg eo le hp tx pm so => ?_
  have none : H p = none := I.hok.fresh le
  have big : (ss.map V.str).length ≤ sizeLine := by rw [List.length_map, pm.length_eq]; exact fits_of_scanBound room
  have J : Inv X pins σ (upd H p (.lst (ss.map V.str))) { s with heap := s'.heap, gens := s'.gens, drawn := s'.drawn, toks := s'.toks } :=
    I.call (ch := []) (Un.laid keep le none) (I.hok.laid keep le ⟨big, out.toList, c, vals_of_strs tx, hp⟩) (by rw [eg]; exact I.bare) (fun _ z => nomatch z)
  have same : s' = { s with heap := s'.heap, gens := s'.gens, drawn := s'.drawn, toks := s'.toks } := by obtain ⟨_, _, _, _, _⟩ := s'; obtain ⟨_, _, _, _, _⟩ := s; cases eo; rfl
  rw [same]
  exact ⟨.ref p, _, J, rfl, q ss p pm so none⟩
end
end L2
/-! set(t), t a tuple of texts. -/
namespace L2
open PySem PySem.Spec PyProof.Rows Er PySem.Froz
end L2
/-! A list comprehension whose item lets out an error (raised where nothing is handled). -/
namespace L2
open PySem PySem.Spec PyProof.Rows
/-- what the block's code is to reach; an error goes on with the block's own env -/
def postE (M : Model) (A : Around) (E : Value → Shared → Prop) (use : Option (Value → Sem Unit)) (Q : Value → Shared → Prop) (acc : Value) (ce : Env) : Result → Shared → Prop
  | .ok f, s' => compPost M A E use Q acc ce.locals (.ok f) s'
  | .error x, s' => ∃ m, s'.heap.Ns ce.locals m ∧ ∀ h', Heap.SameBut ce.locals s'.heap h' → wpAny M A (passOn "comprehension.variables-let-go" x ce : Sem Value) (fun _ _ => False) E { s' with heap := h' }
theorem comp_errs {M : Model} {A : Around} {E : Value → Shared → Prop} {s : Shared} {env : Env} {e : Expr} {scope : Scope} {pos : Pos} {newAcc first : Sem Value} {g : Comprehension} {gs : List Comprehension} {cl : List (Str × Addr)} {use : Option (Value → Sem Unit)} {Q : Value → Shared → Prop}
    (cls : clausesOf e = g :: gs) (same : ∀ x, foldedSetIterable g.iter env x = pure x) (clo : closureFor scope env = pure cl) (kind : scope.kind = .function) (uniq : ∀ x ∈ scope.names, x.2 = .local → scope.names.lookup x.1 = some .local)
    (h : wpAny M A first (fun x s₁ => wpAny M A (pyIter x) (fun it s₂ => wpAny M A newAcc (fun acc s₃ => wpAny M A (newFunctionEnv scope env.globals cl [] env.qual none .none (some env)) (fun ce s₄ =>
      codeAny M A (.compStart e 0 it acc { ce with scope := relabel scope env }) (postE M A E use Q acc { ce with scope := relabel scope env }) s₄) E s₃) E s₂) E s₁) E s) :
    wpAny M A (comprehension e scope env pos newAcc false first use) Q E s := by
  unfold comprehension
  rw [clo, cls]
  have up : ∀ {α β : Type} {t : Sem α} {k : α → Sem β} {P : α → Shared → Prop} {R : β → Shared → Prop} {s : Shared}, wpAny M A t P E s → (∀ a s, P a s → wpAny M A (k a) R E s) → wpAny M A (t >>= k) R E s := fun a b => wpAny_bind (wpAny_mono a b fun _ _ z => z)
  refine up h fun x s₁ h₁ => wpAny_bind (wpAny_standAt ?_)
  refine wpAny_bind (wpAny_of_eq (same x) ?_)
  refine wpAny_bind (wpAny_holding (wpAny_mono h₁ (fun it s₂ h₂ => ?_) fun _ _ z => z))
  refine wpAny_standIf (up h₂ fun acc s₃ h₃ => wpAny_bind (wpAny_pure (up h₃ fun ce s₄ h₄ => ?_)))
  dsimp only
  generalize hvars : (scope.names.filter fun x => (x.2 == .local || x.2 == .cell) && x.1 != (".0" : Str)).reverse = vars
  have loc : ∀ x ∈ vars, x.2 = .local → Env.kindOf { ce with scope := relabel scope env } x.1 = some .local := fun x hx hl => by
    rw [← hvars] at hx
    exact lookup_relabel_local (uniq x (List.mem_filter.mp (List.mem_reverse.mp hx)).1 hl)
  have loc2 : ∀ x ∈ vars.drop 1 ++ vars.take 1, x.2 = .local → Env.kindOf { ce with scope := relabel scope env } x.1 = some .local := fun x hx hl =>
    (List.mem_append.mp hx).elim (fun z => loc x (List.mem_of_mem_drop z) hl) fun z => loc x (List.mem_of_mem_take z) hl
  refine wpAny_holding (wpAny_bind (wpAny_attempt (wpAny_holding (wpAny_run (codeAny_mono h₄ fun res s' got => ?_)))))
  match res, use, got with
  | .ok f, none, ⟨m, hn, q⟩ => exact wpAny_bind (wpAny_holding (wpAny_comp_letGo (cenv := { ce with scope := relabel scope env }) kind _ s' m loc hn fun h' m' _ sb => wpAny_pure (q h' sb)))
  | .ok f, some u, q =>
    apply wpAny_bind; apply wpAny_rule; apply wpAny_bind; apply wpAny_holding
    refine wpAny_mono q (fun _ s'' ⟨m, hn, q⟩ => ?_) fun _ _ z => z
    exact wpAny_bind (wpAny_comp_letGo (cenv := { ce with scope := relabel scope env }) kind _ s'' m loc2 hn fun h' m' _ sb => wpAny_pure (q h' sb))
  | .error x, use, ⟨m, hn, q⟩ =>
    exact wpAny_bind (wpAny_holding (wpAny_comp_letGo (cenv := { ce with scope := relabel scope env }) kind _ s' m loc hn fun h' m' _ sb => wpAny_mono (q h' sb) (fun _ _ f => f.elim) fun _ _ z => z))
theorem note_eq {e : Value} {ce env : Env} (hf : ce.frame = env.frame) : noteFrame e ce = noteFrame e env := by
  unfold PySem.noteFrame PySem.frameOf
  rw [hf]
theorem frames_less {h h' B B' : Heap} {C : Addr} : ∀ {l : List Env}, h.FunFrames B l → (∀ b o, h.get? b = some o → b ∈ frs l → ∃ o', h'.get? b = some o' ∧ o'.data = o.data) → (∀ b, B.get? b = none → B'.get? b = none) → h'.FunFrames B' l
  | [], _, _, _ => trivial
  | env :: r, ⟨a, ⟨L, o, hf, hn, ho, hd⟩, t⟩, k, n => by
    obtain ⟨o', e1, e2⟩ := k L o ho (List.mem_filterMap.mpr ⟨env, List.mem_cons_self, hf⟩)
    refine ⟨a, ⟨L, o', hf, n L hn, e1, fun vs => e2 ▸ hd vs⟩, frames_less (C := C) t (fun b o e m => k b o e ?_) n⟩
    obtain ⟨x, hx, q⟩ := List.mem_filterMap.mp m
    exact List.mem_filterMap.mpr ⟨x, List.mem_cons_of_mem _ hx, q⟩
/-- the error of a call within the block, in the air of the def -/
theorem blk_err {X : Cx} {E : XK} {ce : Env} {u : Value} {s0 s' : Shared} {pins : List (Addr × Obj)} {σ : St} {H0 : Hp} {m : Str → Option Value} {use : Option (Value → Sem Unit)} {Qf : Value → Shared → Prop} {acc : Value}
    (hs : X.stack = X.env :: X.outer) (hf : X.env.frame = some X.env.locals) (tk : L2N.Takes X (fun c d _ H => E c d H)) (hcf : ce.frame = X.env.frame)
    (I : Inv X pins σ H0 s0) (fC : FpOk X pins H0 ce.locals) (nC : s0.heap.Ns ce.locals m) (c : L2N.CX X.prog X.w X.stack H0 s0 E u s') :
    notedBy (model X.prog X.w) X.A ce (fun e s'' => postE (model X.prog X.w) X.A X.xe use Qf acc ce (.error e) s'') u s' := by
  obtain ⟨oC, es, ep, hC, dC, rC⟩ := id nC
  have oC' : ∃ es ep, oC.data = .dict es ep := ⟨es, ep, dC⟩
  obtain ⟨f0, f1, f2, f3, f4, f5⟩ := fC
  have out : ce.locals ∉ frs X.stack := by
    intro z
    rw [hs] at z
    rcases List.mem_filterMap.mp z with ⟨x, hx, q⟩
    rcases List.mem_cons.mp hx with e | hx
    · rw [e, hf] at q; exact f1 (Option.some.inj q).symm
    · exact f2 (List.mem_filterMap.mpr ⟨x, hx, q⟩)
  obtain ⟨a, B0, H', cls, d, rfl, fl, hok, ub, na, os, ag, hE⟩ := c
  have cS : s'.heap.get? ce.locals = some oC := fl.1 _ _ (ub.keep _ _ hC f0 out)
  have I0 : Inv X [] σ H0 s0 := I.pins_of fun p hp => nomatch hp
  obtain ⟨a', B, sI, pins', σ', H2, cls2, d2, ea, J', nb, up, sky, na2, os2, ag2, w2, w3⟩ := L2N.XE.of_call (W := fun c d _ H => E c d H ∧ H ce.locals = none) I0 (fun _ _ _ z => z) ⟨a, B0, H', cls, d, rfl, fl, hok, ub, na, os, ag, hE, ub.free _ _ hC f0⟩
  cases ea
  have J : Inv X [] σ' H2 sI := J'.pins_of fun p hp => nomatch hp
  have hfr : X.A.frames = some (X.env :: X.outer) := by rw [J.ok.frames, hs]
  rw [hs] at sky
  show wpAny _ X.A (noteFrame (.ref a) ce) _ _ s'
  rw [note_eq hcf]
  -- noted: it is held
  have go : ∀ h1, HandSPX.HeldZ B (X.env :: X.outer) a (L2N.Zn cls2 d2) X.env.locals h1 → s'.heap.UpToSlots h1 → postE (model X.prog X.w) X.A X.xe use Qf acc ce (.error (.ref a)) { s' with heap := h1 } := by
    intro h1 held up1
    obtain ⟨slC, c1⟩ := up1 _ _ cS (fun vs z => by rw [dC] at z; cases z)
    refine ⟨m, ⟨_, es, ep, c1, dC, rC⟩, fun h2 sb => ?_⟩
    obtain ⟨G, g1, g2⟩ := restrict sI.heap fun b => decide (b ≠ ce.locals)
    obtain ⟨B2, b1, b2⟩ := restrict B fun b => decide (b ≠ ce.locals)
    have gO : ∀ b, b ≠ ce.locals → G.get? b = sI.heap.get? b := fun b z => g1 b (decide_eq_true z)
    have gC : G.get? ce.locals = none := g2 _ (by simp)
    have bO : ∀ b, b ≠ ce.locals → B2.get? b = B.get? b := fun b z => b1 b (decide_eq_true z)
    have bC : B2.get? ce.locals = none := b2 _ (by simp)
    have ne_of : ∀ {h : Heap} {b : Addr} {o : Obj}, h.get? ce.locals = none → h.get? b = some o → b ≠ ce.locals := fun x y z => by rw [z, x] at y; cases y
    have bl : ∀ b, B.get? b = none → B2.get? b = none := fun b z => by
      by_cases e : b = ce.locals
      · rw [e]; exact bC
      · rw [bO b e]; exact z
    obtain ⟨k1, k2, k3, oe, vs, T, oT, ts, he, hz, hd, hv, hnT, hTe, hT, hdT, h3⟩ := held
    have notC : ∀ {b : Addr} {o : Obj} {vs : Array Value}, h1.get? b = some o → o.data = .fields vs → b ≠ ce.locals := fun {b o vs} x y z => by
      rw [z, c1] at x
      cases x
      have y' : oC.data = .fields vs := y
      rw [dC] at y'; cases y'
    have held2 : HandSPX.HeldZ B2 (X.env :: X.outer) a (L2N.Zn cls2 d2) X.env.locals h2 := by
      refine ⟨fun b o z => ?_, bl a k2, frames_less (C := ce.locals) k3 (fun b o z mm => ⟨o, (sb.2 b fun y => ?_).trans z, rfl⟩) bl, oe, vs, T, oT, ts, (sb.2 a (notC he hd)).trans he, hz, hd, hv, bl T hnT, hTe, (sb.2 T (notC hT hdT)).trans hT, hdT, h3⟩
      · have y := ne_of bC z
        rw [bO b y] at z
        exact (sb.2 b y).trans (k1 b o z)
      · rw [y, ← hs] at mm; exact out mm
    unfold PySem.passOn
    refine wpAny_bind (wpAny_field ((sb.2 a (notC he hd)).trans he) hd hv ?_)
    rw [if_neg (by simp)]
    have fin : wpAny (model X.prog X.w) X.A (setFlight (.ref a) ce.frame) (fun _ s4 => wpAny (model X.prog X.w) X.A (throw (.ref a) : Sem Value) (fun _ _ => False) X.xe s4) X.xe { s' with heap := h2 } := by
      rw [hcf, hf]
      refine HandSPX.setFlight_onZ held2 fun h4 held4 up4 => wpAny_throw (tk _ _ ?_)
      refine ⟨a, B2, { sI with heap := G, toks := sI.toks }, [], σ', H2, cls2, d2, rfl, J.turned (fun b o y z => (gO b y).trans z) w3 f1 f3 f4 (fun p hp => f5 p (List.mem_append_left _ (by simpa using hp))), fun b o z y => ?_, fun b o z y => ?_, .inr (.inr (by rw [hs]; exact held4)), na2, os2, ag2, w2⟩
      · have x := ne_of gC z
        rw [bO b x]
        exact nb b o (by rw [← gO b x]; exact z) y
      · have x := ne_of gC z
        have z' : sI.heap.get? b = some o := by rw [← gO b x]; exact z
        obtain ⟨l1, e1⟩ := up b o z' y
        obtain ⟨l2, e2⟩ := up1 b _ e1 y
        obtain ⟨l3, e3⟩ := up4 b _ ((sb.2 b x).trans e2) y
        exact ⟨l3, e3⟩
    first
      | exact wpAny_bind (wpAny_pure (wpAny_bind fin))
      | exact wpAny_bind fin
  rcases sky with ⟨hB, hn, hl, oe, vs, he, hz, hd, h1⟩ | fl | held
  · exact PXN.look_newZ L2N.Zn.steady hfr hl hf he hB hn hd h1 hz go
  · exact PXN.looks_onZ L2N.Zn.steady hfr hf fl go
  · exact HandSPX.againZ hf held.2.2.2 (go s'.heap held (Heap.UpToSlots.refl _))
/-- the block's context, errors going where xe says -/
abbrev Cx.blkx (X : Cx) (s : Shared) (H : Hp) (scope : Scope) (cenv : Env) (fp : List Addr) (xe : Value → Shared → Prop) : Cx :=
  { X with s_0 := s, H_0 := H, env := cenv, outer := X.stack, ex := fp, fn := fun x => scope.names.lookup x == some .cell, pn := [], xe := xe }
theorem Inv.blkx {X : Cx} {s s' : Shared} {H H' : Hp} {scope : Scope} {cenv : Env} {fp : List Addr} {xe : Value → Shared → Prop} {pins : List (Addr × Obj)} {σ : St} (I : Inv (X.blk s H scope cenv fp) pins σ H' s') : Inv (X.blkx s H scope cenv fp xe) pins σ H' s' :=
  have ok := I.ok
  ⟨⟨ok.mod, ok.kind, ok.glob, ok.blt, ok.above, ok.inj, ok.has, ok.cab, ok.hd, ok.frames, ok.stk, ok.exf, ok.bs, ok.bsz, ok.noex, ok.exfs, ok.funs, ok.frf⟩, I.os, I.bare, I.base, I.loc, I.cell, I.free, I.freeC, I.pin, I.hok, I.len⟩
/-- what the block's parts are to keep: whatever the place the errors go to, so long as a call's errors are taken there -/
def Within (X : Cx) (E : XK) (scope : Scope) (p : Cx → Prop) : Prop := ∀ (s : Shared) (H : Hp) (C : Addr) (cl : List (Str × Addr)) (fp : List Addr) (xe : Value → Shared → Prop),
  Passes (L2N.CX X.prog X.w) (X.blkx s H scope (compEnvC scope cl C X.env) fp xe) E → p (X.blkx s H scope (compEnvC scope cl C X.env) fp xe)
section
variable {X : Cx}
theorem lc_coreE {E : XK} {pins : List (Addr × Obj)} {s : Shared} {σ : St} {H : Hp} {Q : VK} {elt tg iter : Expr} {ifs : List Expr} {scope : Scope} {own : List (Str × Nat)} {pos pos' : Pos} {wi : TI} {g : TG} {tt : TT} {te : TE} {use : Option (Value → Sem Unit)} {Qf : Value → Shared → Prop}
    (hs : X.stack = X.env :: X.outer) (hf : X.env.frame = some X.env.locals) (tk : L2N.Takes X (fun c d _ H => E c d H))
    (hc : X.calm = true) (hN : X.N.Nodup) (I : Inv X pins σ H s) (hi : PI X tg iter wi) (ok : BlkOk X.N X.env.scope scope own)
    (hg : Within X E scope fun Y => PG Y tg g) (ht : Within X E scope fun Y => PTs Y ifs tt) (he : Within X E scope fun Y => PE Y elt te) (same : ∀ x, foldedSetIterable iter X.env x = pure x)
    (h : tLc wi g tt te (own.map (·.2)) σ H Q)
    (fin : ∀ D C s' m H', Inv X pins σ H' s' → Q (.ref D) H' → s'.heap.Ns C m → FpOk X pins H' C → compPost (model X.prog X.w) X.A X.xe use Qf (.ref D) C (.ok .next) s') :
    wpAny (model X.prog X.w) X.A (comprehension (.ListComp elt [⟨tg, iter, ifs, 0⟩] scope pos) scope X.env pos' (newList []) false (eval iter X.env) use) Qf X.xe s := by
  have held : ∀ y ∈ scope.names, y.2 = .free → ∃ c, X.env.cells.lookup y.1 = some c := fun y hy e => I.ok.has _ (ok.free y hy e)
  refine comp_errs (use := use) rfl same (closure_ok held) ok.kind (fun y hy e => by rw [ok.uniq y hy, e]) (thn (hi.run pins s σ H _ I h) fun xv s1 hx => thn hx fun itv s2 h2 => ?_)
  obtain ⟨it, fp, tn, J, H2, rfl, I2, T, st2, f2, plan⟩ := h2
  refine wpAny_newObj_type (newEnv_comp ?_) (by show 0 ≤ sizeLine; decide)
  -- the new list at D
  obtain ⟨D, hD⟩ : ∃ D, D = s2.heap.objs.size := ⟨_, rfl⟩
  rw [← hD]
  obtain ⟨W, ⟨m0, w0⟩, turn⟩ := plan D (I2.hok.fresh (Nat.le_of_eq hD.symm))
  obtain ⟨s3, hs3⟩ : ∃ s3 : Shared, s3 = { s2 with heap := s2.heap.push { cls := .type "list", data := .seq ([] : List Value).toArray } } := ⟨_, rfl⟩
  have h3 : s3.heap = s2.heap.push { cls := .type "list", data := .seq ([] : List Value).toArray } := by rw [hs3]
  have I3 : Inv X pins σ (upd H2 D (.lst [])) s3 := by
    rw [hs3]
    exact I2.laid (t' := s2.toks) (fun b o e => Heap.get?_push_of_some _ e) (Nat.le_of_eq hD.symm) ⟨Nat.zero_le _, [], 0, .nil, by rw [hD]; exact Heap.get?_push_size _ rfl⟩
  rw [← hs3]
  obtain ⟨H3, hH3⟩ : ∃ H3, H3 = upd H2 D (.lst []) := ⟨_, rfl⟩
  rw [← hH3] at I3 w0
  have old : ∀ b ∈ fp, b < s2.heap.objs.size := fun b hb => let ⟨o, e, _⟩ := T.obj _ _ st2 b hb; Heap.lt_size e
  have f3 : ∀ b ∈ fp, FpOk X pins H3 b ∧ b < s3.heap.objs.size := fun b hb => by
    have lt := old b hb
    have ne : b ≠ D := by rw [hD]; exact Nat.ne_of_lt lt
    exact ⟨⟨by rw [hH3, upd_ne ne]; exact (f2 b hb).1, (f2 b hb).2⟩, by rw [h3, size_new]; exact Nat.lt_succ_of_lt lt⟩
  have st3 : tn 0 s3.heap := T.keep _ _ _ st2 fun b _ o e => by rw [h3]; exact Heap.get?_push_of_some _ e
  obtain ⟨cl, hcl⟩ : ∃ cl, cl = cellsFrom (s3.heap.objs.size + 1) scope.names (cloFrom X.env.cells scope.names []) := ⟨_, rfl⟩
  obtain ⟨ce, hce⟩ : ∃ ce, ce = compEnvC scope cl s3.heap.objs.size X.env := ⟨_, rfl⟩
  have cL : ce.locals = s3.heap.objs.size := by rw [hce] <;> rfl
  have cF : ce.frame = X.env.frame := by rw [hce] <;> rfl
  obtain ⟨s4, hs4⟩ : ∃ s4 : Shared, s4 = { s3 with heap := pushCells (s3.heap.push { cls := .type "dict", data := .dict #[] }) scope.names } := ⟨_, rfl⟩
  have I4 : Inv (X.blk s3 H3 scope ce fp) [] (wipe σ (own.map (·.2))) H3 s4 := by rw [hs4, hce, hcl]; exact block_start I3 ok hN f3
  show codeAny _ _ (.compStart (.ListComp elt [⟨tg, iter, ifs, 0⟩] scope pos) 0 (.ref it) (.ref D) (compEnvC scope (cellsFrom (s3.heap.objs.size + 1) scope.names (cloFrom X.env.cells scope.names [])) s3.heap.objs.size X.env))
    (postE (model X.prog X.w) X.A X.xe use Qf (.ref D) (compEnvC scope (cellsFrom (s3.heap.objs.size + 1) scope.names (cloFrom X.env.cells scope.names [])) s3.heap.objs.size X.env)) { s3 with heap := pushCells (s3.heap.push { cls := .type "dict", data := .dict #[] }) scope.names }
  rw [← hcl, ← hce, ← hs4]
  have st4 : tn 0 s4.heap := T.keep _ _ _ st3 fun b _ o e => by rw [hs4]; exact pushCells_keeps _ _ _ _ (Heap.get?_push_of_some _ e)
  -- where a call's error goes
  let XE0 : Value → Shared → Prop := notedBy (model X.prog X.w) X.A ce (fun e s'' => postE (model X.prog X.w) X.A X.xe use Qf (.ref D) ce (.error e) s'')
  let Y : Cx := X.blkx s3 H3 scope ce fp XE0
  have back : ∀ {pins' : List (Addr × Obj)} {σ' : St} {H' : Hp} {s' : Shared}, Inv Y pins' σ' H' s' → Inv X pins σ H' s' ∧ FpOk X pins H' ce.locals ∧ ∃ m, s'.heap.Ns ce.locals m := fun {pins' σ' H' s'} K => by
    obtain ⟨m, hn, _⟩ := K.loc
    have none : H' s3.heap.objs.size = none := by rw [← cL]; exact K.free
    exact ⟨I3.call' (ch := fp) K.os K.base K.hok K.bare fun b hb => ⟨(f3 b hb).1.2.2.2.1, (f3 b hb).1.2.1, (f3 b hb).1.2.2.2.2.1, (f3 b hb).1.2.2.2.2.2⟩, by rw [cL]; exact I3.fpOk (Nat.le_refl _) none, m, hn⟩
  have pass : Passes (L2N.CX X.prog X.w) Y E := fun pins' σ' H' s' e s'' K c => by
    obtain ⟨a, b, m, d⟩ := back K
    exact blk_err hs hf tk cF a b d c
  have pg : PG Y tg g := by
    have z := hg s3 H3 s3.heap.objs.size cl fp XE0
    rw [← hce] at z
    exact z pass
  have pt : PTs Y ifs tt := by
    have z := ht s3 H3 s3.heap.objs.size cl fp XE0
    rw [← hce] at z
    exact z pass
  have pe : PE Y elt te := by
    have z := he s3 H3 s3.heap.objs.size cl fp XE0
    rw [← hce] at z
    exact z pass
  have stay : ∀ {pins' : List (Addr × Obj)} {σ' : St} {H' : Hp} {s' : Shared}, Inv Y [] σ' H' s' → (∀ b ∈ fp, H' b = none) → ∀ b ∈ fp, FpOk Y [] H' b := fun {_ σ' H' s'} K n b hb =>
    ⟨n b hb, (K.ok.exf b hb).1, K.ok.exfs b hb, .inl hb, (K.ok.exf b hb).2, fun p hp => absurd (show p ∈ ([] : List (Addr × Obj)) ++ [] from hp) (by simp)⟩
  have loop : codeAny (model X.prog X.w) X.A (.compLoop (.ListComp elt [⟨tg, iter, ifs, 0⟩] scope pos) 0 (.ref it) (.ref D) ce) (postE (model X.prog X.w) X.A X.xe use Qf (.ref D) ce) s4 := by
    refine compLoop_any (fun n s' => ∃ i H', Inv Y [] (wipe σ (own.map (·.2))) H' s' ∧ tn i s'.heap ∧ (∀ b ∈ fp, H' b = none) ∧ W i n H') ?_ m0 ⟨0, H3, I4.blkx, st4, fun b hb => (f3 b hb).1.1, w0⟩
    rintro n s5 ⟨i, H5, I5, st5, n5, w5⟩
    rcases turn i n H5 w5 with ⟨stop, q⟩ | ⟨go, Nx, next, step⟩
    · refine thnF (T.done Y rfl rfl rfl hc i [] s5 _ H5 (fun _ _ => False) I5 (stay (pins' := []) I5 n5) st5 stop) fun r s6 ⟨hr, I6⟩ => ?_
      subst hr
      obtain ⟨I7, f7, m, hn⟩ := back I6
      exact fin D ce.locals s6 m H5 I7 q hn f7
    · refine thnF (T.item Y rfl rfl rfl hc i [] s5 _ H5 (fun _ _ => False) I5 (stay (pins' := []) I5 n5) st5 go) fun r s6 ⟨u, hr, h6⟩ => ?_
      subst hr
      refine thnF h6 fun _ s7 ⟨x, H7, I7, r7, y7, st7, n7⟩ => ?_
      have P7 : Inv Y ([] ++ pinsAt fp s7.heap) (wipe σ (own.map (·.2))) H7 s7 := I7.pinned (stay (pins' := []) I7 n7) (T.obj _ _ st7)
      refine wpAny_mono (pg.run _ s7 _ H7 x u _ P7 r7 (step x H7 y7)) (fun _ s8 ⟨σ8, H8, I8, w8, q8⟩ => ?_) fun _ _ z => z
      refine wpAny_mono (pt.run _ s8 σ8 H8 _ I8 q8) (fun b s9 ⟨H9, I9, q9⟩ => ?_) fun _ _ z => z
      have ends : ∀ {s' : Shared} {H' : Hp}, Inv Y ([] ++ pinsAt fp s7.heap) σ8 H' s' → Nx H' → ∃ m, m < n ∧ ∃ i H', Inv Y [] (wipe σ (own.map (·.2))) H' s' ∧ tn i s'.heap ∧ (∀ b ∈ fp, H' b = none) ∧ W i m H' := fun {s' H'} K nx => by
        obtain ⟨m', lt, w'⟩ := next H' nx
        have pin : ∀ b ∈ fp, ∀ o, s7.heap.get? b = some o → s'.heap.get? b = some o ∧ H' b = none := fun b hb o e =>
          have z := K.pin (b, o) (List.mem_append_right _ (List.mem_append_right _ (mem_pinsAt hb e)))
          ⟨z.1, z.2.1⟩
        have long : (wipe σ (own.map (·.2))).length = σ8.length := by rw [← w8, wipe_length]
        refine ⟨m', lt, i + 1, H', (K.unpinned (pins := [])).weak long (fun j v e => by rw [← w8] at e; exact (wipe_some e).1), T.keep _ _ _ st7 fun b hb o e => (pin b hb o e).1, fun b hb => ?_, w'⟩
        obtain ⟨o, e, _⟩ := T.obj _ _ st7 b hb
        exact (pin b hb o e).2
      cases b with
      | false => simp only [Bool.false_eq_true, if_false] at q9 ⊢; exact ends I9 q9
      | true =>
        simp only [if_true] at q9 ⊢
        refine wpAny_mono (pe.run _ s9 σ8 H9 _ I9 q9) (fun z s10 ⟨yv, H10, I10, r10, acc, d10, z10, nx⟩ => ?_) fun _ _ z => z
        exact app_ok (X := Y) I10 d10 z10 r10 fun s11 I11 => ends I11 nx
  exact codeAny_compStart_list loop (T.self X.A 0 _ _ _ st4 loop)
/-- name = [..], the name a local, on one line -/
theorem ps_setLcE {E : XK} {i : Nat} {y : Str} {py spos : Pos} {elt tg iter : Expr} {ifs : List Expr} {scope : Scope} {own : List (Str × Nat)} {pos : Pos} {wi : TI} {g : TG} {tt : TT} {te : TE} (hs : X.stack = X.env :: X.outer) (hf : X.env.frame = some X.env.locals) (tk : L2N.Takes X (fun c d _ H => E c d H))
    (hc : X.calm = true) (hN : X.N.Nodup) (hy : X.N[i]? = some y) (hyl : X.env.scope.names.lookup y = some .local) (hsw : swapsWith (.ListComp elt [⟨tg, iter, ifs, 0⟩] scope pos) (some (.Name y py)) spos.line X.env = pure true) (hi : PI X tg iter wi) (ok : BlkOk X.N X.env.scope scope own)
    (hg : Within X E scope fun Y => PG Y tg g) (ht : Within X E scope fun Y => PTs Y ifs tt) (he : Within X E scope fun Y => PE Y elt te) (same : ∀ x, foldedSetIterable iter X.env x = pure x := by intro _; rfl) :
    PS X (.Assign [.Name y py] (.ListComp elt [⟨tg, iter, ifs, 0⟩] scope pos) spos) (tAsg (tLc wi g tt te (own.map (·.2))) (gName i)) := by
  refine ⟨fun pins s σ H D I h => ?_⟩
  rw [exec_Assign_Name_used _ _ _ _ hsw]
  apply wpAny_bind; apply wpAny_standAt; apply wpAny_bind
  show wpAny _ X.A ((comprehension (.ListComp elt [⟨tg, iter, ifs, 0⟩] scope pos) scope X.env (firstIterPos [⟨tg, iter, ifs, 0⟩] pos) (newList []) false (eval iter X.env) (some (assign (.Name y py) X.env))) >>= fun _ => pure ()) _ _ s
  have plan : tLc wi g tt te (own.map (·.2)) σ H (fun x H1 => gName i x σ H1 D.nx) := h
  refine wpAny_bind (wpAny_mono (lc_coreE (Qf := fun _ s' => SP X pins D .next s') hs hf tk hc hN I hi ok hg ht he same plan fun L C s' m H' J q hn ⟨f0, f1, _, f3, f4, f5⟩ => ?_) (fun _ s' q => wpAny_pure (wpAny_pure q)) fun _ _ z => z)
  show wpAny _ X.A (assign (.Name y py) X.env (.ref L)) _ _ s'
  refine wpAny_assign_Name (store_ok2 (v := V.ref L) J hN hy (.inl hyl) rfl (fun s2 I2 ⟨a, sb, ha⟩ => ?_) (.inr hyl))
  have ne : C ≠ a := ha.elim (fun z => by rw [z]; exact f1) fun z e => f4 y a z e.symm
  exact ⟨m, hn.sameBut sb ne, fun h3 sb3 => ⟨_, H', I2.turned (t' := s2.toks) (fun b o hb e => (sb3.2 b hb).trans e) f0 f1 f3 f4 f5, q⟩⟩
end
end L2
/-! Comprehensions over a range, and all(list), in a def that is called while an error is handled. -/
namespace HotX
open PySem PySem.Spec PyProof.Rows
end HotX
namespace L2
open PySem PySem.Spec PyProof.Rows HotX
end L2
/-! for and comprehensions over a list in a def that is called while an error is handled. -/
namespace L2
open PySem PySem.Spec PyProof.Rows HotX
end L2
/-! min(i, j) in a def or a suite where an error is handled. -/
namespace HotX
open PySem PySem.Spec PyProof.Rows
end HotX
namespace L2
open PySem PySem.Spec PyProof.Rows HotX
end L2
/-! try: .. with several «except X as n:» of one name n. -/
/-! isinstance(e, (A, B, ..)), e the error that the suite holds; an error's exceptions where a def with a star binds. -/
namespace L2
open PySem PySem.Spec PyProof.Rows Er
open StX in
theorem cxUpN {P : Program} {w : World} : CXUp (L2N.CX P w) := by
  rintro outer s H s2 H2 E e s' un kp ho ⟨a, B, H', cls, d, ea, fl, hok, ub, na, os, ag, he⟩
  have old : ∀ b o, s.heap.get? b = some o → H b = none → H2 b = none := fun b o q n => un.free b o q n (by simp)
  refine ⟨a, B, H', cls, d, ea, fl, hok, ⟨fun b o q n => ub.keep b o (kp b o q) (old b o q n), fun b o q => ub.slot b o (kp b o q), fun b o q n => ub.free b o (kp b o q) (old b o q n), fun b o q => ub.there b o (kp b o q), fun b xs q => ub.tups b xs (un.tups b xs q), fun b o xs q => ub.frzs b o xs (un.frzs b o xs q), fun b ps q => ?_⟩, na, os.trans ho, ag, he⟩
  obtain ⟨m1, e1⟩ := un.tbls b ps q
  obtain ⟨m2, e2⟩ := ub.tbls b _ e1
  exact ⟨m1 ++ m2, by rw [e2, Array.append_assoc]⟩
/-- a def f(self, .., *v) that may let errors out: what is left over is a new tuple -/
theorem Fun.okStar {P : Program} {w : World} {K : PySem.W.Frag} {mg : Str → Option Value} {base : Heap} {x qual pv : Str} {st : Stmt} {f : Addr} {fd : FuncData} {N ps : List Str} {k : Nat} {sp : Sp} (F : Fun K x qual st f fd) (S : FnScope N (ps ++ [pv]) (defScope st))
    (bind : ∀ (kV doc pm : Value) (an : Option Addr) (cdv ct : Value) (us rest : List Value), us.length = ps.length → bindArgs (PySem.W.fnOf x qual (defArgs st) (defBody st) (defScope st) .none kV doc pm an cdv ct) ⟨us ++ rest, []⟩ = (newTuple rest >>= fun t => pure (ps.zip us ++ [(pv, t)])))
    (hbody : ∀ (cdv : Value) (A : Around) (outer : List Env) (s : Shared) (H : Hp) (vs : List V) (Q : VK) (E : XK), Room k (A.deeper (envOfC qual (defScope st) s.heap.objs.size f cdv)) → sp vs H Q E →
      ∃ t, PSs (cxOf (L2N.CX P w) P w K mg base N qual (defScope st) f cdv A outer s H E) (defBody st) t ∧ t { nx := fun _ H' => Q .non H', rt := Q } (start N vs) H) :
    FnR P w K mg base (L2N.CX P w) (k + 1) f (fun vs H Q E => ∃ ws rest, vs = ws ++ rest ∧ ws.length = ps.length ∧ rest.length ≤ sizeLine ∧ ∀ p, H p = none → sp (ws ++ [V.ref p]) (upd H p (.tup rest)) Q E) := by
  obtain ⟨oc, od, kV, doc, pm, an, cdv, ct, osl, rfl, lk, hcd⟩ := F.ex
  exact StX.fn_star lk hcd S cxUpN (bind _ _ _ _ _ _) fun A outer s H vs Q E hr h => hbody cdv A outer s H vs Q E hr h
end L2
/-! Own containers: len(o), x in o, list(o) by the class's own __len__, __contains__, __iter__ (that gives iter(a tuple)); own operators without reflected ones; comparisons of two own objects; C(*xs); t == u of tuples of texts. -/
namespace L2
open PySem PySem.Spec PyProof.Rows Er
section
variable {X : Cx} {CX CX1 : CXT} {C f g : Addr} {fd gd : FuncData} {k : Nat} {sp : Sp} {E : XK}
/-- x in o -/
def rInO (C : Addr) (neg : Bool) (sp : Sp) (E : XK) : R2 := fun x y H Q => ∃ a dx fs, y = .ref a ∧ H a = some (.ins C dx fs) ∧ sp [y, x] H (fun v H' => ∃ b, v = .bl b ∧ Q (.bl (if neg then !b else b)) H') E
theorem op_inO (hf : PySem.W.findIn X.K (.ref C) "__contains__" = some (some (.ref g))) (hi : PySem.W.isFn X.K (.ref g) = true)
    (F : FnOk X.prog X.w X.K X.mg X.base CX k g fd ["self", "x"] sp) (hr : Room k X.A) (b : Binds X.K fd ["self", "x"] []) (hx : Passes CX X E) : OpR X (compareOp .In) (rInO C false sp E) := by
  intro pins s σ H x y v u Q I rx ry h
  obtain ⟨a, dx, fs, rfl, ha, h⟩ := h
  cases ry
  obtain ⟨_, J⟩ := inst_of' I ha
  obtain ⟨m, fr⟩ := I.fr
  refine PySem.W.in_K fr I.ok.mod.kin J hf hi (wpAny_mono (run_fn (vs := [.ref a, x]) (us := [.ref a, v]) (dvs := []) F hr b .nil hx I (.cons rfl (.cons rx .nil)) h) (fun r s' z => ?_) (fun _ _ z => z))
  obtain ⟨v', H1, I1, rv, bb, ev, q⟩ := z
  subst ev
  obtain rfl : r = Value.bool bb := rv
  exact wpAny_pure ⟨.bl bb, H1, I1, rfl, q⟩
end
/-! ### C(*xs) -/
/-! ### iter(t) of a tuple, list(o) -/
def TItO (t it : Addr) (i : Nat) : HO := .ext fun h => h.IsTupleIter it t i
section
variable {X : Cx} {pins : List (Addr × Obj)} {σ : St} {H : Hp} {s : Shared} {t it : Addr} {i : Nat}
theorem titO_ok {P : Program} {w : World} {H : Hp} {h : Heap} (e : h.IsTupleIter it t i) : ObjOk P w H h it (TItO t it i) := ⟨e, (let ⟨o, ho, _⟩ := e; ⟨o, ho⟩), fun h1 h2 q k => let ⟨o, ho, r⟩ := q; ⟨o, k o ho, r⟩⟩
end
/-! ### t == u of two tuples of texts -/
end L2
/-! an own operator, and C(*xs), where what is raised is wished for at the caller's slots -/
namespace L2
open PySem PySem.Spec PyProof.Rows Er
end L2
/-! o(x), o and x locals: a term that says nothing of the caller's frame, for use in a comprehension -/
namespace L2
open PySem PySem.Spec PyProof.Rows Er StX
end L2
/-! an own method, defaults and all, where what it raises is wished for at the caller's slots -/
namespace L2
open PySem PySem.Spec PyProof.Rows
end L2
/-! o(x), x any expression: a term that says nothing of the caller's frame; the same where what is raised is wished for at the caller's slots -/
namespace L2
open PySem PySem.Spec PyProof.Rows Er StX
end L2
/-! C.m(..), m a classmethod, where what is raised is wished for at the caller's slots -/
/-! l == m of two lists of texts -/
namespace L2
open PySem PySem.Spec PyProof.Rows Er
end L2
/-! o[x] by the class's own __getitem__; the same in a try -/
namespace L2
open PySem PySem.Spec PyProof.Rows Er
section
variable {X : Cx} {CX1 : CXT} {C f : Addr} {fd : FuncData} {k : Nat} {sp : Sp} {E : XK} {ES : St → XK} {a b : Expr} {ta tb : TE} {pos : Pos} {p2 : Str}
/-- the class's own o[x] -/
structure GetO (K : PySem.W.Frag) (C f : Addr) : Prop where
  at_ : PySem.W.findIn K (.ref C) "__getitem__" = some (some (.ref f))
  fi : PySem.W.fnIn K f = true
  fn : PySem.W.isFn K (.ref f) = true
def tSubOS (C : Addr) (sp : Sp) (E : St → XK) (ta tb : TE) : TE := fun σ H Q => ta σ H fun x H1 => tb σ H1 fun y H2 => ∃ (o dx : Addr) (fs : List (Str × V)), x = .ref o ∧ H2 o = some (.ins C dx fs) ∧ sp [x, y] H2 Q (E σ)
theorem pe_subOS (G : GetO X.K C f) (F : FnOk X.prog X.w X.K X.mg X.base CX1 k f fd ["self", p2] sp) (hr : Room (k + 1) X.A) (bF : Binds X.K fd ["self", p2] []) (hx : ∀ σ, PassesAt CX1 X σ (ES σ)) (ha : PE X a ta) (hb : PE X b tb)
    (hsl : ∀ x i, subscripted b true (.ref x) i = runValue (.builtin "lifetime.subscript" ⟨[.ref x, i], []⟩) := by intro _ _; with_unfolding_all rfl) : PE X (.Subscript a b pos) (tSubOS C sp ES ta tb) := by
  refine ⟨fun pins s σ H Q I h => ?_⟩
  refine Subscript_ (binT ha hb I h fun v u s2 x y H2 I2 rx ry q => ?_)
  obtain ⟨o, dx, fs, rfl, hA, h⟩ := q
  cases rx
  obtain ⟨_, J⟩ := inst_of' I2 hA
  obtain ⟨m, fr⟩ := I2.fr
  refine PySem.W.sub_K fr I2.ok.mod.kin J G.at_ G.fi G.fn ?_ (hsl _ _)
  have hr' : Room k ({ X.A with units := X.A.units + 1 } : Around) := ⟨hr.hd, by have := hr.dp; show X.A.depth + 3 * k + 5 < _; omega, by have := hr.un; show X.A.units + 1 + 16 * k + 200 < cLine; omega⟩
  have z := run_fnS (X := { X with A := { X.A with units := X.A.units + 1 } }) (CX := CX1) (vs := [.ref o, y]) (us := [.ref o, u]) F hr' bF (fun pins H s e s' I' h' => hx σ pins H s e s' I'.out1 h') (I2.in1 _) (.cons rfl (.cons ry .nil)) h
  exact thn z fun u s1 hh => by
    obtain ⟨v, H1, I1, rv, q⟩ := hh
    exact ⟨v, H1, I1.out1, rv, q⟩
def tSubO (C : Addr) (sp : Sp) (E : XK) (ta tb : TE) : TE := tSubOS C sp (fun _ => E) ta tb
theorem pe_subO (G : GetO X.K C f) (F : FnOk X.prog X.w X.K X.mg X.base CX1 k f fd ["self", p2] sp) (hr : Room (k + 1) X.A) (bF : Binds X.K fd ["self", p2] []) (hx : Passes CX1 X E) (ha : PE X a ta) (hb : PE X b tb)
    (hsl : ∀ x i, subscripted b true (.ref x) i = runValue (.builtin "lifetime.subscript" ⟨[.ref x, i], []⟩) := by intro _ _; with_unfolding_all rfl) : PE X (.Subscript a b pos) (tSubO C sp E ta tb) :=
  pe_subOS G F hr bF (fun σ pins H s e s' I h => hx pins σ H s e s' I h) ha hb hsl
end
end L2
/-! x not in o by the class's own __contains__ -/
namespace L2
open PySem PySem.Spec PyProof.Rows Er
section
variable {X : Cx} {CX CX1 : CXT} {C f g : Addr} {fd gd : FuncData} {k : Nat} {sp : Sp} {E : XK}
theorem op_niO (hf : PySem.W.findIn X.K (.ref C) "__contains__" = some (some (.ref g))) (hi : PySem.W.isFn X.K (.ref g) = true)
    (F : FnOk X.prog X.w X.K X.mg X.base CX k g fd ["self", "x"] sp) (hr : Room k X.A) (b : Binds X.K fd ["self", "x"] []) (hx : Passes CX X E) : OpR X (compareOp .NotIn) (rInO C true sp E) := by
  intro pins s σ H x y v u Q I rx ry h
  obtain ⟨a, dx, fs, rfl, ha, h⟩ := h
  cases ry
  obtain ⟨_, J⟩ := inst_of' I ha
  obtain ⟨m, fr⟩ := I.fr
  refine PySem.W.notIn_K fr I.ok.mod.kin J hf hi (wpAny_mono (run_fn (vs := [.ref a, x]) (us := [.ref a, v]) (dvs := []) F hr b .nil hx I (.cons rfl (.cons rx .nil)) h) (fun r s' z => ?_) (fun _ _ z => z))
  obtain ⟨v', H1, I1, rv, bb, ev, q⟩ := z
  subst ev
  obtain rfl : r = Value.bool bb := rv
  exact wpAny_pure ⟨.bl (!bb), H1, I1, rfl, q⟩
end
end L2
namespace L2
open PySem PySem.Spec PyProof.Rows
end L2
namespace L2
open PySem PySem.Spec PyProof.Rows
end L2
namespace L2
open PySem PySem.Spec PyProof.Rows
/-- the view d.values() at p -/
def valsO (p d : Addr) : HO := .ext fun h => h.IsValuesView p d
theorem valsO_ok {P : Program} {w : World} {H : Hp} {h : Heap} {p d : Addr} (e : h.get? p = some { cls := .type "dict_values", data := .fields #[.ref d] }) : ObjOk P w H h p (valsO p d) :=
  ⟨⟨_, e, rfl, rfl⟩, ⟨_, e⟩, fun h1 h2 x k => let ⟨o, ho, r⟩ := x; ⟨o, k o ho, r⟩⟩
section
variable {X : Cx}
def rValsK : V → List V → Hp → VK → Prop := fun x xs H Q => ∃ (a : Addr) (kvs : List (Key × V)), x = .ref a ∧ xs = [] ∧ Rd H a (.dK kvs) ∧ ∀ p, H p = none → Q (.ref p) (upd H p (valsO p a))
theorem mt_valsK : MtR X "dict.values" rValsK := by
  intro pins s σ H x xs v us Q I rx rxs h
  obtain ⟨a, kvs, rfl, rfl, ha, q⟩ := h
  cases rx
  cases rxs
  obtain ⟨z, hd, vs, rel, dd⟩ := dk_rd I.hok ha
  refine call_meetsIn F.slot_dict_values dd.typeIs F.entry_dict_values (F.args_dict_values_1 _) (meets_dict_values (mixKind X.prog X.w) a hd) ⟨⟨vs, dd⟩, ?_⟩
  have hf : H s.heap.objs.size = none := I.hok.fresh (Nat.le_refl _)
  exact ⟨.ref s.heap.objs.size, upd H s.heap.objs.size (valsO s.heap.objs.size a), I.laid (t' := s.toks) (fun b u e => Heap.get?_push_of_some _ e) (Nat.le_refl _) (valsO_ok (Heap.get?_push_size _ rfl)), rfl, q _ hf⟩
/-- list(d.values()) -/
theorem call_listVals (hcalm : X.calm = true) : CallR X (.type "list") (fun xs H Q => ∃ (v a : Addr) (kvs : List (Key × V)), xs = [.ref v] ∧ H v = some (valsO v a) ∧ Rd H a (.dK kvs) ∧ ∀ p, H p = none → Q (.ref p) (upd H p (.lst (kvs.map (·.2))))) := by
  intro pins s σ H xs us Q I r q
  obtain ⟨v, a, kvs, ex, hv, hd, q⟩ := q
  subst ex
  obtain ⟨u, eu, rx⟩ := vals1 r
  subst eu
  cases rx
  obtain ⟨z, lo, vs, rel, dd⟩ := dk_rd I.hok hd
  obtain ⟨ep, hat⟩ := dd.dictAt
  have hview : s.heap.IsValuesView v a := (show ObjOk X.prog X.w H s.heap v (valsO v a) from I.hok v _ hv).1
  refine PySem.W.kdl_call (PySem.W.kdl_values (knd := mixKind X.prog X.w) (kvs := vs) (ep := ep)) (I.ok.hd hcalm) ⟨hview, hat⟩ (by rw [← rel.length]; exact z) fun h' tk acc c' hk hD hacc => ?_
  have hl : acc.toList.length = vs.length := by rw [Array.length_toList]; exact hacc.1
  have hacc2 : acc.toList = vs.map (·.2) := PySem.W.kdl_vals_eq acc.toList hl fun j u e => hacc.2 j u (by rw [← Array.getElem?_toList]; exact e)
  have hvals : ∀ {kvs : List (Key × V)} {vs : List (Key × Value)}, KV kvs vs → Vals (kvs.map (·.2)) (vs.map (·.2)) := fun {kvs vs} r => by
    unfold KV at r
    induction r with
    | nil => exact .nil
    | cons h t ih => exact .cons h.2 ih
  refine ⟨.ref s.heap.objs.size, upd H s.heap.objs.size (.lst (kvs.map (·.2))), I.laid (t' := tk) hk (Nat.le_refl _)
    (show ObjOk X.prog X.w _ _ _ (.lst (kvs.map (·.2))) from ⟨by rw [List.length_map]; exact z, acc.toList, c', by rw [hacc2]; exact hvals rel, by rw [Array.toArray_toList]; exact hD⟩), rfl, q _ (I.hok.fresh (Nat.le_refl _))⟩
end
end L2
namespace L2
open PySem PySem.Spec PyProof.Rows
/-- the iterator at it over the keys of d, n of them, i gone -/
def KItO (d it : Addr) (i n ep : Nat) : HO := .ext fun h => h.IsKeyIter it d i n ep
section
variable {X : Cx} {pins : List (Addr × Obj)} {σ : St} {H : Hp} {s : Shared} {d it : Addr} {i n ep : Nat}
theorem kitO_ok {P : Program} {w : World} {H : Hp} {h : Heap} (e : h.IsKeyIter it d i n ep) : ObjOk P w H h it (KItO d it i n ep) := ⟨e, (let ⟨o, ho, _⟩ := e; ⟨o, ho⟩), fun h1 h2 q k => let ⟨o, ho, r⟩ := q; ⟨o, k o ho, r⟩⟩
end
end L2
/-! for and comprehensions over an own object whose __iter__ gives iter(dict) (the dict locked) or iter(tuple), wherever the object stands -/
namespace L2
open PySem PySem.Spec PyProof.Rows
/-- without what stands at one place -/
def offI (H : Hp) (a : Addr) : Hp := fun c => if c = a then none else H c
theorem offI_ne {H : Hp} {a c : Addr} (n : c ≠ a) : offI H a c = H c := if_neg n
theorem offI_new {H : Hp} {a : Addr} {o : HO} (n : H a = none) : offI (upd H a o) a = H := by
  funext c
  unfold offI
  by_cases e : c = a
  · rw [if_pos e, e, n]
  · rw [if_neg e, upd_ne e]
/-- iter(t) of a tuple, iter(d) of a locked dict: the iterator stands at n or above -/
def rIterTn (K : PySem.W.Frag) (n : Nat) : List V → Hp → VK → Prop := fun xs H Q => ∃ (t : Addr) (ys : List V), xs = [.ref t] ∧ SqT K H t ys ∧ ∀ it, H it = none → n ≤ it → Q (.ref it) (upd H it (TItO t it 0))
def rIterDn (n : Nat) : List V → Hp → VK → Prop := fun xs H Q => ∃ (d : Addr) (o : Obj) (kvs : List (Key × V)), xs = [.ref d] ∧ H d = some (.frz o (.dK kvs)) ∧ ∀ it es ep, o.data = .dict es ep → H it = none → n ≤ it → Q (.ref it) (upd H it (KItO d it 0 kvs.length ep))
section
variable {X : Cx} {pins : List (Addr × Obj)} {σ : St} {H : Hp} {s : Shared}
theorem call_iterTn : CallR X (.builtin "iter") (rIterTn X.K X.s_0.heap.objs.size) := by
  intro pins s σ H xs us Q I r h
  obtain ⟨t, ys, rfl, hq, q⟩ := h
  obtain rfl := Vals.ref1 r
  obtain ⟨its, rv, p, hz⟩ := I.tuple hq
  refine Calls.call_function_entry (by decide +kernel) (by decide +kernel) PySem.W.kdk_entry_iter (PySem.W.kdk_args_iter _) ?_
  unfold Builtin.«iter»
  refine wpAny_bind (m := someArgs "iter" 1 2 _) (wpAny_of_eq (a := [Value.ref t]) (by first | rfl | kernel_rfl!) ?_)
  show wpAny _ _ (pyIter (.ref t) >>= _) _ _ _
  refine wpAny_bind (wpAny_pyIter_tuple (show s.heap.IsTuple t its.toArray from p) ?_)
  exact wpAny_pure ⟨_, rfl, .ref s.heap.objs.size, _, I.laid (t' := s.toks) (fun b u e => Heap.get?_push_of_some _ e) (Nat.le_refl _) (titO_ok ⟨_, Heap.get?_push_size _ rfl, rfl, rfl⟩), rfl, q _ (I.hok.fresh (Nat.le_refl _)) I.sz⟩
theorem call_iterDn : CallR X (.builtin "iter") (rIterDn X.s_0.heap.objs.size) := by
  intro pins s σ H xs us Q I r h
  obtain ⟨d, o, kvs, rfl, hd, q⟩ := h
  obtain rfl := Vals.ref1 r
  obtain ⟨hs, hgd, hx, es, ep, vs, hdt, hsz, kv, hm⟩ := I.frzK hd
  have hl : kvs.length = vs.length := Paired.length kv
  refine Calls.call_function_entry (by decide +kernel) (by decide +kernel) PySem.W.kdk_entry_iter (PySem.W.kdk_args_iter _) ?_
  unfold Builtin.«iter»
  refine wpAny_bind (m := someArgs "iter" 1 2 _) (wpAny_of_eq (a := [Value.ref d]) (by first | rfl | kernel_rfl!) ?_)
  show wpAny _ _ (pyIter (.ref d) >>= _) _ _ _
  refine wpAny_bind (wpAny_pyIter_dict hs hm ?_)
  exact wpAny_pure ⟨_, rfl, .ref s.heap.objs.size, _, I.laid (t' := s.toks) (fun b u e => Heap.get?_push_of_some _ e) (Nat.le_refl _) (kitO_ok ⟨_, Heap.get?_push_size _ rfl, rfl, by rw [hl]; rfl⟩), rfl, q _ es ep hdt (I.hok.fresh (Nat.le_refl _)) I.sz⟩
end
/-- a def whose promise may speak of the heap's size at the call -/
structure FnS (P : Program) (w : World) (K : PySem.W.Frag) (mg : Str → Option Value) (base : Heap) (CX : CXT) (k : Nat) (f : Addr) (fd : FuncData) (ps : List Str) (sp : Nat → Sp) : Prop where
  len : ∀ n vs H Q E, sp n vs H Q E → vs.length = ps.length
  run : ∀ (A : Around) (outer : List Env) (s : Shared) (H : Hp) (args : Args) (us : List Value) (vs : List V) (Q : VK) (E : XK), Room k A → Env0 P w K mg base A outer s H → BindsTo s fd args (ps.zip us) → Vals vs us → sp s.heap.objs.size vs H Q E →
    codeAny (model P w) A (.call (.ref f) args) (CR CX outer P w H s Q E) s
section
variable {P : Program} {w : World} {K : PySem.W.Frag} {mg : Str → Option Value} {base : Heap}
theorem FnS.of {x qual : Str} {st : Stmt} {f : Addr} {fd : FuncData} {N ps : List Str} {k : Nat} {sp : Nat → Sp} (F : Fun K x qual st f fd) (S : FnScope N ps (defScope st)) (len : ∀ n vs H Q E, sp n vs H Q E → vs.length = ps.length)
    (hbody : ∀ (cdv : Value) (A : Around) (outer : List Env) (s : Shared) (H : Hp) (vs : List V) (Q : VK) (E : XK), Room k (A.deeper (envOfC qual (defScope st) s.heap.objs.size f cdv)) → sp s.heap.objs.size vs H Q E →
      ∃ t, PSs (cxOf CX0 P w K mg base N qual (defScope st) f cdv A outer s H E).nox (defBody st) t ∧ t { nx := fun _ H' => Q .non H', rt := Q } (start N vs) H) : FnS P w K mg base CX0 (k + 1) f fd ps sp := by
  obtain ⟨oc, od, kV, doc, pm, an, cdv, ct, osl, rfl, lk, hcd⟩ := F.ex
  refine ⟨len, fun A outer s H args us vs Q E hr e0 hb r hsp => ?_⟩
  have hl := len _ _ _ _ _ hsp
  have KX : K.In s.heap := e0.mod.kin.keeps fun b o e => (e0.bs b o e).1
  have par : ∀ y ∈ ps.zip us, (defScope st).names.lookup y.1 = some .local ∨ ((defScope st).names.lookup y.1 = some .cell ∧ ((cellsFrom (s.heap.objs.size + 1) (defScope st).names []).lookup y.1).isSome = true) := fun y hy =>
    (S.par y.1 (List.of_mem_zip (a := y.1) (b := y.2) hy).1).elim .inl fun q => .inr ⟨q, PySem.W.cellsFrom_some _ _ _ (.inl q)⟩
  obtain ⟨t, ht, hq⟩ := hbody cdv A outer s H vs Q E (hr.deeper _) hsp
  refine codeAny_call_function hr.depth (KX _ _ lk) rfl S.co S.gen rfl (PySem.W.codeRec_of KX hcd) (hb _ _ _ _ (wpAny_newFunctionEnv_cells S.kind par fun env he s1 x => ?_))
  subst he
  refine ⟨(e0.mod.nolimit.keeps fun b o e => (e0.bs b o e).1 : s.heap.NoLimit).keeps x.toInCall.keep, codeAny_func (wpAny_mono (ht.nox.run [] s1 (start N vs) H _ (inv_start S hr.hd e0 hl r x) hq) (fun fl s' hs => ?_) fun e s' hs => hs)⟩
  cases fl with
  | ret u => exact let ⟨v, σ', H', J, rv, q⟩ := hs; ⟨v, H', J.os, J.bare, J.base, J.hok, rv, q⟩
  | next => exact let ⟨σ', H', J, q⟩ := hs; ⟨V.non, H', J.os, J.bare, J.base, J.hok, rfl, q⟩
  | brk => exact let ⟨_, _, _, q⟩ := hs; False.elim q
  | cont => exact let ⟨_, _, _, q⟩ := hs; False.elim q
end
/-- the object walked, of the class C; its dict locked -/
def iOwnK (C : Addr) (spI : Nat → Sp) (td : TE) : TI := fun σ H R => td σ H fun x H1 => ∃ a dx fs d o kvs, x = .ref a ∧ H1 a = some (.ins C dx fs) ∧ H1 d = some (.frz o (.dK kvs)) ∧
  ∀ n, spI n [.ref a] H1 (fun v H2 => ∃ it es ep, v = .ref it ∧ o.data = .dict es ep ∧ H1 it = none ∧ n ≤ it ∧ H2 it = some (KItO d it 0 kvs.length ep) ∧ R (Itk d o kvs) (offI H2 it)) E0
/-- .. whose __iter__ gives iter(tuple) -/
def iOwnT (K : PySem.W.Frag) (C : Addr) (spI : Nat → Sp) (td : TE) : TI := fun σ H R => td σ H fun x H1 => ∃ a dx fs, x = .ref a ∧ H1 a = some (.ins C dx fs) ∧
  ∀ n, spI n [.ref a] H1 (fun v H2 => ∃ it t, v = .ref it ∧ H1 it = none ∧ n ≤ it ∧ H2 it = some (TItO t it 0) ∧ R (Itt K t) (offI H2 it)) E0
section
variable {X : Cx} {C fi : Addr} {fdI : FuncData} {spI : Nat → Sp} {n : Nat} {tg e : Expr} {td : TE}
theorem pi_ownK (he : PE X e td) (hi : PySem.W.findIn X.K (.ref C) "__iter__" = some (some (.ref fi))) (hiF : PySem.W.isFn X.K (.ref fi) = true) (FI : FnS X.prog X.w X.K X.mg X.base CX0 n fi fdI ["self"] spI) (bI : Binds X.K fdI ["self"] []) (hr : Room n X.A) : PI X tg e (iOwnK C spI td) := by
  refine ⟨fun pins s σ H R I h => ?_⟩
  refine thn (he.run pins s σ H _ I h) fun u s1 ⟨x, H1, I1, rx, a, dx, fs, d, o, kvs, ex, ha, hd, go⟩ => ?_
  subst ex
  obtain rfl : u = Value.ref a := rx
  obtain ⟨_, J⟩ := inst_of' I1 ha
  obtain ⟨m0, hF⟩ := I1.fr
  refine PySem.W.owit_iter hF I1.ok.mod.kin J hi hiF ?_
  have go := go s1.heap.objs.size
  have hl := FI.len _ _ _ _ _ go
  have r2 : Vals [V.ref a] [Value.ref a] := .cons rfl .nil
  have bb := bI s1 [.ref a] I1.kIn (by simpa using hl)
  refine wpAny_call (codeAny_mono (FI.run X.A X.stack s1 H1 ⟨[.ref a], []⟩ [.ref a] [.ref a] _ E0 hr I1.env0 (by simpa using bb) r2 go) fun r s' hq => ?_)
  cases r with
  | error e => exact False.elim hq
  | ok fl =>
    cases fl with
    | next => exact False.elim hq
    | brk => exact False.elim hq
    | cont => exact False.elim hq
    | ret v =>
      have hq2 := hq
      obtain ⟨w, H2, os, bare, un, hok, rv, it, es, ep, rfl, hdat, nit, low, hit, q⟩ := hq
      obtain rfl : v = Value.ref it := rv
      have kit : s'.heap.IsKeyIter it d 0 kvs.length ep := (hok it _ hit).1
      have hT : s'.TypeIs (.ref it) "dict_keyiterator" := kit.typeIs
      unfold PySem.W.OwitIt
      refine wpAny_specialOf hT PySem.F.slot_dict_keyiterator_next.lookup ?_
      have ne_ : ∀ b u, H1 b = some u → b ≠ it := fun b u z e => by rw [e, nit] at z; cases z
      have un1 : Un (frs X.stack) [] H1 (offI H2 it) s1.heap s'.heap := ⟨un.keep, un.slot, fun b ob g n h => by
        have z := un.free b ob g n h
        unfold offI
        by_cases e : b = it
        · rw [if_pos e]
        · rw [if_neg e]; exact z, un.there, fun b xs z => by rw [offI_ne (ne_ b _ z)]; exact un.tups b xs z, fun b o' u z => by rw [offI_ne (ne_ b _ z)]; exact un.frzs b o' u z, fun b ps z => by rw [offI_ne (ne_ b _ z)]; exact un.tbls b ps z⟩
      have hok1 : HOk X.prog X.w (offI H2 it) s'.heap := fun b u z => by
        have nb : b ≠ it := fun e => by rw [e] at z; unfold offI at z; rw [if_pos rfl] at z; cases z
        rw [offI_ne nb] at z
        refine (hok b u z).stay (fun _ _ _ g => g) (fun c g => ?_) (fun c xs g => ?_)
        · rw [offI_ne fun e => ?_]
          · exact g
          · rw [e, hit] at g; cases g
        · rw [offI_ne fun e => ?_]
          · exact g
          · rw [e, hit] at g; cases g
      have J1 : Inv X pins σ (offI H2 it) s' := I1.call' os un1 hok1 bare (fun b z => absurd z (by simp))
      have none1 : s1.heap.get? it = none := by
        cases g : s1.heap.get? it with
        | none => rfl
        | some ob =>
          have z := un.free it ob g nit (by simp)
          rw [hit] at z
          cases z
      have size : X.s_0.heap.objs.size ≤ it := Nat.le_trans I1.sz low
      refine ⟨it, [it], _, _, offI H2 it, rfl, J1, turn_keys it hdat, kit, fun b hb => ?_, q⟩
      have hb : b = it := by simpa using hb
      rw [hb]
      refine ⟨if_pos rfl, ?_, ?_, .inr size, fun x c e z => ?_, fun p hp z => ?_⟩
      · intro z
        obtain ⟨m, ⟨oL, _, _, hL, _⟩, _⟩ := I1.loc
        rw [z, hL] at none1
        cases none1
      · intro hb2
        obtain ⟨_, ob, ho, _⟩ := I1.ok.funs.mem hb2
        exact absurd (Nat.lt_of_lt_of_le (Heap.lt_size ho) size) (Nat.lt_irrefl _)
      · obtain ⟨v, ob, ho, _⟩ := I1.cell x c e
        rw [z, none1] at ho
        cases ho
      · have z2 := (I1.pin p hp).1
        rw [z, none1] at z2
        cases z2
theorem pi_ownT (he : PE X e td) (hi : PySem.W.findIn X.K (.ref C) "__iter__" = some (some (.ref fi))) (hiF : PySem.W.isFn X.K (.ref fi) = true) (FI : FnS X.prog X.w X.K X.mg X.base CX0 n fi fdI ["self"] spI) (bI : Binds X.K fdI ["self"] []) (hr : Room n X.A) : PI X tg e (iOwnT X.K C spI td) := by
  refine ⟨fun pins s σ H R I h => ?_⟩
  refine thn (he.run pins s σ H _ I h) fun u s1 ⟨x, H1, I1, rx, a, dx, fs, ex, ha, go⟩ => ?_
  subst ex
  obtain rfl : u = Value.ref a := rx
  obtain ⟨_, J⟩ := inst_of' I1 ha
  obtain ⟨m0, hF⟩ := I1.fr
  refine PySem.W.owit_iter hF I1.ok.mod.kin J hi hiF ?_
  have go := go s1.heap.objs.size
  have hl := FI.len _ _ _ _ _ go
  have r2 : Vals [V.ref a] [Value.ref a] := .cons rfl .nil
  have bb := bI s1 [.ref a] I1.kIn (by simpa using hl)
  refine wpAny_call (codeAny_mono (FI.run X.A X.stack s1 H1 ⟨[.ref a], []⟩ [.ref a] [.ref a] _ E0 hr I1.env0 (by simpa using bb) r2 go) fun r s' hq => ?_)
  cases r with
  | error e => exact False.elim hq
  | ok fl =>
    cases fl with
    | next => exact False.elim hq
    | brk => exact False.elim hq
    | cont => exact False.elim hq
    | ret v =>
      have hq2 := hq
      obtain ⟨w, H2, os, bare, un, hok, rv, it, t, rfl, nit, low, hit, q⟩ := hq
      obtain rfl : v = Value.ref it := rv
      have kit : s'.heap.IsTupleIter it t 0 := (hok it _ hit).1
      have hT : s'.TypeIs (.ref it) "tuple_iterator" := kit.typeIs
      unfold PySem.W.OwitIt
      refine wpAny_specialOf hT PySem.F.slot_tuple_iterator_next.lookup ?_
      have ne_ : ∀ b u, H1 b = some u → b ≠ it := fun b u z e => by rw [e, nit] at z; cases z
      have un1 : Un (frs X.stack) [] H1 (offI H2 it) s1.heap s'.heap := ⟨un.keep, un.slot, fun b ob g n h => by
        have z := un.free b ob g n h
        unfold offI
        by_cases e : b = it
        · rw [if_pos e]
        · rw [if_neg e]; exact z, un.there, fun b xs z => by rw [offI_ne (ne_ b _ z)]; exact un.tups b xs z, fun b o' u z => by rw [offI_ne (ne_ b _ z)]; exact un.frzs b o' u z, fun b ps z => by rw [offI_ne (ne_ b _ z)]; exact un.tbls b ps z⟩
      have hok1 : HOk X.prog X.w (offI H2 it) s'.heap := fun b u z => by
        have nb : b ≠ it := fun e => by rw [e] at z; unfold offI at z; rw [if_pos rfl] at z; cases z
        rw [offI_ne nb] at z
        refine (hok b u z).stay (fun _ _ _ g => g) (fun c g => ?_) (fun c xs g => ?_)
        · rw [offI_ne fun e => ?_]
          · exact g
          · rw [e, hit] at g; cases g
        · rw [offI_ne fun e => ?_]
          · exact g
          · rw [e, hit] at g; cases g
      have J1 : Inv X pins σ (offI H2 it) s' := I1.call' os un1 hok1 bare (fun b z => absurd z (by simp))
      have none1 : s1.heap.get? it = none := by
        cases g : s1.heap.get? it with
        | none => rfl
        | some ob =>
          have z := un.free it ob g nit (by simp)
          rw [hit] at z
          cases z
      have size : X.s_0.heap.objs.size ≤ it := Nat.le_trans I1.sz low
      refine ⟨it, [it], _, _, offI H2 it, rfl, J1, turn_tuple t it, kit, fun b hb => ?_, q⟩
      have hb : b = it := by simpa using hb
      rw [hb]
      refine ⟨if_pos rfl, ?_, ?_, .inr size, fun x c e z => ?_, fun p hp z => ?_⟩
      · intro z
        obtain ⟨m, ⟨oL, _, _, hL, _⟩, _⟩ := I1.loc
        rw [z, hL] at none1
        cases none1
      · intro hb2
        obtain ⟨_, ob, ho, _⟩ := I1.ok.funs.mem hb2
        exact absurd (Nat.lt_of_lt_of_le (Heap.lt_size ho) size) (Nat.lt_irrefl _)
      · obtain ⟨v, ob, ho, _⟩ := I1.cell x c e
        rw [z, none1] at ho
        cases ho
      · have z2 := (I1.pin p hp).1
        rw [z, none1] at z2
        cases z2
end
end L2
namespace L2
open PySem PySem.Spec PyProof.Rows
/-- the tuple at a, counted from c, each item in a new pair -/
def ItS (K : PySem.W.Frag) (a : Addr) (c : Int) : It :=
  ⟨fun i H => ∃ (xs : List V) (x : V), SqT K H a xs ∧ xs[i]? = some x, fun i H v H' => ∃ T x, v = .ref T ∧ H T = none ∧ H' = upd H T (.tup [.int (c + (i : Nat)), x]) ∧ ∀ xs, SqT K H a xs → xs[i]? = some x, fun i H => ∃ xs : List V, SqT K H a xs ∧ xs.length = i⟩
theorem turn_enumS {P : Program} {w : World} {K : PySem.W.Frag} {elts : List Expr} {kk : Nat} {tpos : Pos} (a e it : Addr) (c : Int) :
    Turn P w K (.Tuple elts kk tpos) (ItS K a c) [e, it] e (fun i h => (∃ old, IsEnum h e it (c + ((i : Nat) : Int)) old) ∧ h.IsTupleIter it a i ∧ e ≠ it ∧ a ≠ it ∧ a ≠ e) where
  mem := by simp
  obj := fun i h st b hb => by
    obtain ⟨⟨old, he⟩, ⟨o, ho, hc, hd⟩, _⟩ := st
    have e' : b = e ∨ b = it := by simpa using hb
    rcases e' with z | z
    · rw [z]; exact ⟨_, he, fun v q => nomatch q⟩
    · rw [z]; exact ⟨o, ho, fun v q => by rw [hd] at q; cases q⟩
  keep := fun i h h' st k => let ⟨⟨old, he⟩, ⟨o, ho, r⟩, hne⟩ := st; ⟨⟨old, k e (by simp) _ he⟩, ⟨o, k it (by simp) _ ho, r⟩, hne⟩
  item := by
    intro X hP hw hK hc i pins s σ H E I hf st hg
    subst hP hw hK
    obtain ⟨⟨old, he⟩, hit, hne, hai, hae⟩ := st
    obtain ⟨xs, x, hq, hx⟩ := hg
    obtain ⟨its, rv, p, hz⟩ := I.tuple hq
    obtain ⟨u, hu, ru⟩ := rv.get hx
    have hel : e < s.heap.objs.size := Heap.lt_size he
    have hil : it < s.heap.objs.size := by obtain ⟨_, q, _⟩ := hit; exact Heap.lt_size q
    have p' : s.heap.IsTuple a its.toArray := p
    have hlt : i < its.toArray.size := by
      have e0 := rv.length
      have e1 := (List.getElem?_eq_some_iff.mp hx).1
      simp; omega
    refine wpAny_pyNext_enum_itemC (Draws.tuple (A := X.A.in1) (I.ok.hd hc) it a hai its.toArray) he ⟨hit, p'⟩ hlt hne (by simp [hne, Ne.symm hae]) fun y h' tk hy ho hst hT hsz hk => ?_
    obtain ⟨hit', _⟩ := hst
    have ey : y = u := by
      have e1 : its.toArray[i]? = some y := hy
      rw [List.getElem?_toArray, hu] at e1
      exact (Option.some.inj e1).symm
    subst ey
    refine ⟨_, rfl, wpAny_letOwnedTupleGo_enum (s := { s with heap := h', toks := tk + 1 }) ho fun h'' he' sb => ?_⟩
    have hT2 : h''.get? s.heap.objs.size = some { cls := .type "tuple", data := .seq #[.int (c + (i : Nat)) tk, y] } := (sb.2 _ (Nat.ne_of_gt hel)).trans hT
    have new : ObjOk X.prog X.w (upd H s.heap.objs.size (.tup [.int (c + (i : Nat)), x])) h'' s.heap.objs.size (.tup [.int (c + (i : Nat)), x]) :=
      ⟨by show 2 ≤ sizeLine; decide, [.int (c + (i : Nat)) tk, y], .cons ⟨_, rfl⟩ (.cons ru .nil), ⟨_, hT2, rfl, _, rfl⟩⟩
    have I1 : Inv X pins σ (upd H s.heap.objs.size (.tup [.int (c + (i : Nat)), x])) { s with heap := h'', toks := tk + 1 } :=
      I.turnedNew (ch := [e, it]) (fun b ob hb q => (sb.2 b (fun z => hb (by simp [z]))).trans (hk b ob (fun z => hb (by simp [z])) (fun z => hb (by simp [z])) q)) hf (Nat.le_refl _) new
    refine ⟨.ref s.heap.objs.size, _, I1, rfl, ⟨_, x, rfl, I.hok.fresh (Nat.le_refl _), rfl, fun ys hy => by rw [I.tuple_inj hy hq]; exact hx⟩, ⟨⟨y, ?_⟩, (let ⟨o, ho, r⟩ := hit'; ⟨o, (sb.2 it (Ne.symm hne)).trans ho, r⟩), hne, hai, hae⟩, fun b hb => ?_⟩
    · have e1 : c + ((i + 1 : Nat) : Int) = c + (i : Int) + 1 := by omega
      rw [e1]; exact he'
    · have hb' : b < s.heap.objs.size := by
        have e' : b = e ∨ b = it := by simpa using hb
        rcases e' with z | z
        · rw [z]; exact hel
        · rw [z]; exact hil
      rw [upd_ne (Nat.ne_of_lt hb')]
      exact (hf b hb).1
  done := by
    intro X hP hw hK hc i pins s σ H E I hf st hg
    subst hP hw hK
    obtain ⟨⟨old, he⟩, hit, hne, hai, hae⟩ := st
    obtain ⟨xs, hq, hx⟩ := hg
    obtain ⟨its, rv, p, hz⟩ := I.tuple hq
    obtain ⟨f0, f1, f2, f3, f4, f5⟩ := hf it (by simp)
    have hl := rv.length
    have p' : s.heap.IsTuple a its.toArray := p
    have hs : its.toArray.size = i := by simp; omega
    exact wpAny_pyNext_enum_endD (Draws.tuple (A := X.A.in1) (I.ok.hd hc) it a hai its.toArray) he ⟨by rw [hs]; exact hit, p'⟩ fun h' eb => ⟨rfl, I.turned (t' := s.toks) (fun b o hb q => eb b o hb q) f0 f1 f3 f4 f5⟩
  self := fun A i s Q E st h => let ⟨⟨_, he⟩, _⟩ := st; wpAny_pyIter_enum he h
section
variable {M : Model} {A : Around} {E : Value → Shared → Prop} {s : Shared} {env : Env}
theorem callWith_typeKw {pos : Pos} {T : String} {e : Expr} {rest : List Expr} {kws : List Keyword} {Q : Value → Shared → Prop}
    (h : wpAny M A (spliced (backTo pos (starEach (e :: rest) env))) (fun vs s₁ => wpAny M A (evalAll ((backToKw pos (keywordEach kws env)).map (·.2)))
      (fun kvs s₂ => wpAny M A (call (.type T) vs (((backToKw pos (keywordEach kws env)).filterMap (·.1)).zip kvs)) Q E s₂) E s₁) E s)
    (he : backTo pos (starEach (e :: rest) env) = (false, eval e env) :: backTo pos (starEach rest env) := by rfl)
    (hplain : (backTo pos (starEach (e :: rest) env)).any (·.1) = false := by rfl)
    (hall : (backToKw pos (keywordEach kws env)).all (·.1.isSome) = true := by rfl)
    (hkw : (backToKw pos (keywordEach kws env)).any (·.1.isNone) = false := by rfl) :
    wpAny M A (callWith pos (.type T) [] (backTo pos (starEach (e :: rest) env)) (backToKw pos (keywordEach kws env))) Q E s := by
  have h2 : wpAny M A (evalArgs (.type T) true (backTo pos (starEach (e :: rest) env)) (backToKw pos (keywordEach kws env))) (fun a s₁ => wpAny M A (call (.type T) ([] ++ a.pos) a.kw) Q E s₁) E s := by
    rw [he] at h ⊢
    exact evalArgs_kwB hall h
  unfold callWith
  refine wpAny_bind (wpAny_holding (wpAny_mono h2 (fun a s₁ h₁ => wpAny_bind (wpAny_standAt ?_)) fun _ _ x => x))
  simp only [hplain, hkw, Bool.or_false]
  refine wpAny_bind (wpAny_pure ?_)
  exact wpAny_bind (wpAny_mono h₁ (fun r s₂ hr => wpAny_bind (wpAny_holding (wpAny_point (wpAny_pure hr)))) fun _ _ x => x)
end
def iEnumS (K : PySem.W.Frag) (ta tk : TA) : TI := fun σ H R => ta σ H fun vs H1 => tk σ H1 fun zs H2 => ∃ a xs c, vs = [.ref a] ∧ zs = [.int c] ∧ -(2 ^ 63) ≤ c ∧ c < 2 ^ 63 ∧ SqT K H2 a xs ∧ R (ItS K a c) H2
theorem pi_enumS {X : Cx} {e : Expr} {ta tk : TA} {p pos tpos : Pos} {elts : List Expr} {kk : Nat} {kws : List Keyword} (hg : Gl X "enumerate") (hm : X.mg "enumerate" = none) (ha : PA X [e] ta) (hk : PK X kws tk)
    (he : backTo pos (starEach [e] X.env) = (false, eval e X.env) :: backTo pos (starEach [] X.env) := by rfl) (hpl : (backTo pos (starEach [e] X.env)).any (·.1) = false := by rfl)
    (hall : (backToKw pos (keywordEach kws X.env)).all (·.1.isSome) = true := by rfl) (hnone : (backToKw pos (keywordEach kws X.env)).any (·.1.isNone) = false := by rfl) (hks : (backToKw pos (keywordEach kws X.env)).filterMap (·.1) = [Str.ofString "start"] := by rfl) :
    PI X (.Tuple elts kk tpos) (.Call (.Name "enumerate" p) [e] kws pos) (iEnumS X.K ta tk) := by
  refine ⟨fun pins s σ H R I h => ?_⟩
  refine wpAny_Call_Name_kw (ld_blt I hg hm boot_enumerate ?_)
  refine callWith_typeKw (thn (ha.run pos pins s σ H _ I h) fun us s1 ⟨vs, H1, I1, r1, q1⟩ => thn (hk.run pos pins s1 σ H1 _ I1 q1) fun ws s2 ⟨zs, H2, I2, r2, q2⟩ => ?_) he hpl hall hnone
  rw [hks]
  obtain ⟨a, xs, c, rfl, rfl, hc0, hc1, hq, q⟩ := q2
  obtain ⟨u, rfl, ru⟩ := r1.one
  cases ru
  obtain ⟨u2, rfl, t, rfl⟩ := r2.one
  obtain ⟨its, rv, p', hz⟩ := I2.tuple hq
  have p'' : s2.heap.IsTuple a its.toArray := p'
  have hal : a < s2.heap.objs.size := by obtain ⟨o, ho, _⟩ := p''; exact Heap.lt_size ho
  refine enum_begins_start (begins_tuple a its.toArray) p'' hc0 hc1 fun h' he' hit hsz hkp => wpAny_pyIter_enum he' ?_
  have I3 : Inv X pins σ H2 { s2 with heap := h' } := I2.kept (t' := s2.toks) hkp
  refine ⟨s2.heap.objs.size + 1, [s2.heap.objs.size + 1, s2.heap.objs.size], _, _, H2, rfl, I3, turn_enumS a (s2.heap.objs.size + 1) s2.heap.objs.size c, ⟨⟨.none, by simpa using he'⟩, ⟨_, hit, rfl, rfl⟩, Nat.succ_ne_self _, Nat.ne_of_lt hal, Nat.ne_of_lt (Nat.lt_succ_of_lt hal)⟩, fun b hb => ?_, q⟩
  have e' : b = s2.heap.objs.size + 1 ∨ b = s2.heap.objs.size := by simpa using hb
  have hle : s2.heap.objs.size ≤ b := by
    rcases e' with z | z
    · rw [z]; exact Nat.le_add_right _ _
    · rw [z]; exact Nat.le_refl _
  exact I2.fpOk hle (I2.hok.fresh hle)
theorem walk_enumS {K : PySem.W.Frag} {a : Addr} {c : Int} {xs : List V} : Walk (ItS K a c) xs.length (fun H => SqT K H a xs) (YPair (fun i => some (.int (c + (i : Nat)))) (fun i => xs[i]?)) := by
  refine ⟨fun i _ hi q => ⟨xs, xs[i], q, by simp [hi]⟩, fun _ q => ⟨xs, q, rfl⟩, fun i H v H' _ q y => ?_⟩
  obtain ⟨T, x, h1, h2, h3, h4⟩ := y
  exact ⟨T, .int (c + (i : Nat)), x, h1, h2, h3, rfl, h4 xs q⟩
end L2
/-! x += y, x -= y by the class's own __iadd__, __isub__; what they raise is wished for at the caller's slots -/
namespace L2
open PySem PySem.Spec PyProof.Rows Er
end L2
namespace L2
open PySem PySem.Spec PyProof.Rows
section
variable {J : It} {n : Nat} {G : Hp → Prop} {Y : Nat → Hp → V → Hp → Prop}
/-- a dict comprehension over it: Pv by the turn and the heap (the new dict at D within) -/
theorem dc_it (w : Walk J n G Y) {g : TG} {tt : TT} {tk tv : TE} {vs : List Nat} {σ : St} {H1 : Hp} {D : Addr} {Qd : Hp → Prop} (Pv : Nat → Hp → Prop) (h0 : Pv 0 (upd H1 D (.dK []))) (hG : ∀ i H, i ≤ n → Pv i H → G H)
    (hs : ∀ i x H H', i < n → Pv i H → Y i H x H' → g x (wipe σ vs) H' fun σ2 H2 => wipe σ2 vs = wipe σ vs ∧ tt σ2 H2 fun b H3 =>
      if b = true then tk σ2 H3 fun y H4 => tv σ2 H4 fun z H5 => ∃ kvs k, y = kV k ∧ H5 D = some (.dK kvs) ∧ kvs.length < sizeLine ∧ Pv (i + 1) (upd H5 D (.dK (putK kvs k z))) else Pv (i + 1) H3) (hd : ∀ H, Pv n H → Qd H) :
    ∃ W : Nat → Nat → Hp → Prop, (∃ m, W 0 m (upd H1 D (.dK []))) ∧ ∀ i m H, W i m H →
      (J.stop i H ∧ Qd H) ∨ (J.go i H ∧ ∃ Nx : Hp → Prop, (∀ H', Nx H' → ∃ m', m' < m ∧ W (i + 1) m' H') ∧ ∀ x H', J.yld i H x H' → g x (wipe σ vs) H' fun σ2 H2 => wipe σ2 vs = wipe σ vs ∧ tt σ2 H2 fun b H3 =>
        if b = true then tk σ2 H3 fun y H4 => tv σ2 H4 fun z H5 => ∃ kvs k, y = kV k ∧ H5 D = some (.dK kvs) ∧ kvs.length < sizeLine ∧ Nx (upd H5 D (.dK (putK kvs k z))) else Nx H3) := by
  refine ⟨fun i m H => m = n - i ∧ i ≤ n ∧ Pv i H, ⟨n, by simp, Nat.zero_le _, h0⟩, ?_⟩
  rintro i m H ⟨rfl, hi, p⟩
  have q := hG i H hi p
  by_cases hlt : i < n
  · refine .inr ⟨w.goes i H hlt q, Pv (i + 1), fun H' p' => ⟨n - (i + 1), by omega, rfl, hlt, p'⟩, fun x H' y => hs i x H H' hlt p (w.yields i H x H' hlt q y)⟩
  · have e : i = n := by omega
    subst e
    exact .inl ⟨w.stops H q, hd H p⟩
end
end L2
/-! o[i] = v by the class's own __setitem__; what it raises is wished for at the caller's slots -/
namespace L2
open PySem PySem.Spec PyProof.Rows Er
end L2
/-! for over a list or a tuple, whichever it is; x in l for a tuple x of flat things. -/
namespace L2
open PySem PySem.Spec PyProof.Rows
section
variable {X : Cx} {tg : Expr}
theorem Room.units1 {k : Nat} {A : Around} (r : Room k A) : A.units + 65 < cLine := by have := r.un; omega
def iSeq (K : PySem.W.Frag) (tl : TE) : TI := fun σ H R => tl σ H fun x H1 => ∃ a, x = .ref a ∧ (((∃ xs, SqL K H1 a xs) ∧ R (Itl K a) H1) ∨ ((∃ xs, SqT K H1 a xs) ∧ R (Itt K a) H1))
theorem pi_seq {l : Expr} {tl : TE} (hl : PE X l tl) : PI X tg l (iSeq X.K tl) := by
  refine ⟨fun pins s σ H R I h => ?_⟩
  refine thn (hl.run pins s σ H _ I h) fun v s1 ⟨x, H1, I1, r1, q1⟩ => ?_
  obtain ⟨a, e, q1⟩ := q1
  subst e
  cases r1
  rcases q1 with ⟨⟨xs, hq⟩, q⟩ | ⟨⟨xs, hq⟩, q⟩
  · obtain ⟨its, rv, p, hz⟩ := I1.list hq
    refine wpAny_pyIter_list p.isList ?_
    refine ⟨s1.heap.objs.size, [s1.heap.objs.size], _, _, H1, rfl, I1.kept (t' := s1.toks) fun b o e => Heap.get?_push_of_some _ e, turn_list a _, ⟨_, Heap.get?_push_size _ rfl, rfl, rfl⟩, fun b hb => ?_, q⟩
    have e : b = s1.heap.objs.size := by simpa using hb
    subst e
    exact I1.fpOk (Nat.le_refl _) (I1.hok.fresh (Nat.le_refl _))
  · obtain ⟨its, rv, p, hz⟩ := I1.tuple hq
    refine wpAny_pyIter_tuple (show s1.heap.IsTuple a its.toArray from p) ?_
    refine ⟨s1.heap.objs.size, [s1.heap.objs.size], _, _, H1, rfl, I1.kept (t' := s1.toks) fun b o e => Heap.get?_push_of_some _ e, turn_tuple a _, ⟨_, Heap.get?_push_size _ rfl, rfl, rfl⟩, fun b hb => ?_, q⟩
    have e : b = s1.heap.objs.size := by simpa using hb
    subst e
    exact I1.fpOk (Nat.le_refl _) (I1.hok.fresh (Nat.le_refl _))
end
section
open Evl
variable {K : PySem.W.Frag} {σ : L2.St} {H : Hp} {D : Ends} {g : TG} {tu : TS} {tz : TS}
/-- a list or a tuple of these things -/
def Sq2 (K : PySem.W.Frag) (H : Hp) (a : Addr) (xs : List V) : Prop := SqL K H a xs ∨ SqT K H a xs
theorem Sq2.mono {H' : Hp} {a : Addr} {xs : List V} (h : Sq2 K H a xs) (e : Ex H H') : Sq2 K H' a xs := h.elim (fun h => .inl (ex_l e h)) (fun h => .inr (ex_t e h))
theorem s_forS {a : Addr} {xs : List V} {tl : TE} (h : Ev tl σ H (.ref a)) (hx : Sq2 K H a xs) (Pv : Nat → L2.St → Hp → Prop) (h0 : ∀ H1, Ex H H1 → Pv 0 σ H1) (hl : ∀ i σ' H', Pv i σ' H' → Ex H H')
    (hs : ∀ i x σ' H', xs[i]? = some x → Pv i σ' H' → g x σ' H' fun σ2 H2 => tu { D with nx := Pv (i + 1), ct := Pv (i + 1), bk := D.nx } σ2 H2) (hd : ∀ σ' H', Pv xs.length σ' H' → D.nx σ' H') : tFor (iSeq K tl) g tu D σ H :=
  h H (Ex.refl H) _ fun H1 e => ⟨a, rfl, hx.elim (fun hx => .inl ⟨⟨xs, ex_l e hx⟩, for_list Pv (h0 H1 e) (fun i σ' H' _ p => ex_l (hl i σ' H' p) hx) hs hd⟩) (fun hx => .inr ⟨⟨xs, ex_t e hx⟩, for_tup Pv (h0 H1 e) (fun i σ' H' _ p => ex_t (hl i σ' H' p) hx) hs hd⟩)⟩
theorem q_forS {a : Addr} {xs : List V} {tl : TE} (h : Ev tl σ H (.ref a)) (hx : Sq2 K H a xs) (Pv : Nat → L2.St → Hp → Prop) (h0 : ∀ H1, Ex H H1 → Pv 0 σ H1) (hl : ∀ i σ' H', Pv i σ' H' → Ex H H')
    (hs : ∀ i x σ' H', xs[i]? = some x → Pv i σ' H' → g x σ' H' fun σ2 H2 => tu { D with nx := Pv (i + 1), ct := Pv (i + 1), bk := tz D } σ2 H2) (hd : ∀ σ' H', Pv xs.length σ' H' → tz D σ' H') : tSeq (tFor (iSeq K tl) g tu) tz D σ H :=
  s_forS (D := { D with nx := tz D }) h hx Pv h0 hl hs hd
/-- items (number, text) as data -/
def nsD (z : Int × Str) : PyData := .tuple [.int z.1, .str z.2]
theorem nsD_lay {z : Int × Str} (h : ∀ c ∈ z.2.cps.toList, c < 128) : (nsD z).canLay0 = true := by
  have e : PyData.strOk z.2 = true := by
    unfold PyData.strOk
    rw [← Array.all_toList]
    exact List.all_eq_true.mpr fun c m => decide_eq_true (by have := h c m; omega)
  simp [nsD, PyData.canLay0, PyData.canLayAll0, e]
theorem nsD_depth (z : Int × Str) : (nsD z).depth = 1 := by simp [nsD, PyData.depth, PyData.depthAll]
theorem nsDs_lay : ∀ {zs : List (Int × Str)}, (∀ z ∈ zs, ∀ c ∈ z.2.cps.toList, c < 128) → PyData.canLayAll0 (zs.map nsD) = true
  | [], _ => by simp [PyData.canLayAll0]
  | z :: zs, h => by
    have h1 := nsD_lay (h z List.mem_cons_self)
    have h2 := nsDs_lay (zs := zs) fun y m => h y (List.mem_cons_of_mem _ m)
    simp [PyData.canLayAll0, h1, h2]
theorem nsDs_depth : ∀ zs : List (Int × Str), PyData.depthAll (zs.map nsD) ≤ 1
  | [] => by simp [PyData.depthAll]
  | z :: zs => by
    have h1 := nsDs_depth zs
    have h2 := nsD_depth z
    simp only [List.map_cons, PyData.depthAll]
    omega
theorem nsD_shaped {z : Int × Str} (h : ∀ c ∈ z.2.cps.toList, c < 128) : SeqAt.shaped (nsD z) = true := by
  have h1 := nsD_depth z
  show ((nsD z).canLay0 && decide ((nsD z).depth ≤ 64)) = true
  rw [Bool.and_eq_true]
  exact ⟨nsD_lay h, decide_eq_true (by omega)⟩
theorem nsDs_shaped {zs : List (Int × Str)} (h : ∀ z ∈ zs, ∀ c ∈ z.2.cps.toList, c < 128) : SeqAt.shaped (.list (zs.map nsD)) = true := by
  have h1 := nsDs_depth zs
  have h2 : PyData.depth (.list (zs.map nsD)) ≤ 64 := by
    simp only [PyData.depth]
    omega
  show (PyData.canLay0 (.list (zs.map nsD)) && decide (PyData.depth (.list (zs.map nsD)) ≤ 64)) = true
  rw [Bool.and_eq_true]
  exact ⟨by simp only [PyData.canLay0]; exact nsDs_lay h, decide_eq_true h2⟩
theorem nsD_eqv (z w : Int × Str) : PyData.eqv (nsD z) (nsD w) = decide (z = w) := by
  obtain ⟨a, b⟩ := z
  obtain ⟨a', b'⟩ := w
  have e : PyData.eqv (nsD (a, b)) (nsD (a', b')) = ((a == a') && ((b == b') && true)) := by simp only [nsD, PyData.eqv, PyData.eqvAll]
  rw [e]
  by_cases h1 : a = a' <;> by_cases h2 : b = b' <;> simp [h1, h2]
theorem nsD_any (zs : List (Int × Str)) (z : Int × Str) : ((zs.map nsD).any fun w => PyData.eqv w (nsD z)) = decide (z ∈ zs) := by
  rw [List.any_map]
  induction zs with
  | nil => rfl
  | cons y r ih =>
    rw [List.any_cons, ih]
    have e : ((fun w => PyData.eqv w (nsD z)) ∘ nsD) y = decide (z = y) := by
      show PyData.eqv (nsD y) (nsD z) = _
      rw [nsD_eqv]
      exact decide_eq_decide.mpr eq_comm
    rw [e]
    by_cases h : z = y <;> simp [h]
end
end L2
namespace L2
open PySem PySem.Spec PyProof.Rows
theorem q_asgLc {te : TE} {g : TG} {tz : TS} {D : Ends} {σ : L2.St} {H : Hp} (h : te σ H fun x H1 => g x σ H1 fun σ' H' => tz D σ' H') : tSeq (tAsg te g) tz D σ H := h
end L2
/-! a dict comprehension over a list. -/
namespace L2
open PySem PySem.Spec PyProof.Rows
theorem dc_list {K : PySem.W.Frag} {a : Addr} {xs : List V} {g : TG} {tt : TT} {tk tv : TE} {vs : List Nat} {σ : St} {H1 : Hp} {D : Addr} {Qd : Hp → Prop} (Pv : Nat → Hp → Prop) (h0 : Pv 0 (upd H1 D (.dK []))) (hl : ∀ i H, i ≤ xs.length → Pv i H → SqL K H a xs)
    (hs : ∀ i x H, xs[i]? = some x → Pv i H → g x (wipe σ vs) H fun σ2 H2 => wipe σ2 vs = wipe σ vs ∧ tt σ2 H2 fun b H3 =>
      if b = true then tk σ2 H3 fun y H4 => tv σ2 H4 fun z H5 => ∃ kvs k, y = kV k ∧ H5 D = some (.dK kvs) ∧ kvs.length < sizeLine ∧ Pv (i + 1) (upd H5 D (.dK (putK kvs k z))) else Pv (i + 1) H3) (hd : ∀ H, Pv xs.length H → Qd H) :
    ∃ W : Nat → Nat → Hp → Prop, (∃ m, W 0 m (upd H1 D (.dK []))) ∧ ∀ i m H, W i m H →
      ((Itl K a).stop i H ∧ Qd H) ∨ ((Itl K a).go i H ∧ ∃ Nx : Hp → Prop, (∀ H', Nx H' → ∃ m', m' < m ∧ W (i + 1) m' H') ∧ ∀ x H', (Itl K a).yld i H x H' → g x (wipe σ vs) H' fun σ2 H2 => wipe σ2 vs = wipe σ vs ∧ tt σ2 H2 fun b H3 =>
        if b = true then tk σ2 H3 fun y H4 => tv σ2 H4 fun z H5 => ∃ kvs k, y = kV k ∧ H5 D = some (.dK kvs) ∧ kvs.length < sizeLine ∧ Nx (upd H5 D (.dK (putK kvs k z))) else Nx H3) := by
  refine ⟨fun i m H => m = xs.length - i ∧ i ≤ xs.length ∧ Pv i H, ⟨xs.length, by simp, Nat.zero_le _, h0⟩, ?_⟩
  rintro i m H ⟨rfl, hi, p⟩
  have q := hl i H hi p
  by_cases hlt : i < xs.length
  · refine .inr ⟨⟨xs, xs[i], q, by simp [hlt]⟩, Pv (i + 1), fun H' p' => ⟨xs.length - (i + 1), by omega, rfl, hlt, p'⟩, fun x H' y => ?_⟩
    obtain ⟨e, y⟩ := y
    subst e
    exact hs i x _ (y xs q) p
  · have e : i = xs.length := by omega
    subst e
    exact .inl ⟨⟨xs, q, Nat.le_refl _⟩, hd H p⟩
end L2
/-! set(list of ints): the set of rSortedSet; its size is bounded by any list that holds its members. -/
namespace L2
open PySem PySem.Spec PyProof.Rows Er PySem.Froz
section
variable {P : Program} {w : World} {A : Around} {E : Value → Shared → Prop} {s : Shared}
theorem nd_le {α : Type} [DecidableEq α] : ∀ {l m : List α}, l.Nodup → (∀ x ∈ l, x ∈ m) → l.length ≤ m.length
  | [], m, _, _ => Nat.zero_le _
  | x :: l, m, nd, sub => by
    obtain ⟨n1, n2⟩ := List.nodup_cons.mp nd
    have pe := List.perm_cons_erase (sub x List.mem_cons_self)
    have z := nd_le (m := m.erase x) n2 fun y hy => (List.mem_erase_of_ne (fun (e : y = x) => n1 (by rw [← e]; exact hy))).mpr (sub y (List.mem_cons_of_mem _ hy))
    have q := pe.length_eq
    simp only [List.length_cons] at q ⊢
    omega
theorem SetR.few {h : Heap} {a : Addr} {S : Int → Bool} {n : Nat} (R : SetR w h a S n) {D : List Int} (sub : ∀ k, S k = true → k ∈ D) : n ≤ D.length := by
  obtain ⟨o, es, ep, t, ho, hex, hd, g, nd, hm, hb, hf, hn, hr, hl⟩ := R
  have z := nd_le nd (m := D) fun k hk => sub k ((hm k).mpr hk)
  rw [List.length_map, Array.length_toList] at z
  omega
theorem set_ints {l : Addr} {its : Array Value} {xs : List Int} {Q : Value → Shared → Prop} (calm : A.handled = none) (hl : s.heap.IsList l its) (tx : IntsAre its.toList xs) (room : xs.length + 1 < scanBound)
    (h : ∀ (h' : Heap) (tk c : Nat), SetR w h' s.heap.objs.size (fun j => decide (j ∈ xs)) c → (∀ b o, s.heap.get? b = some o → h'.get? b = some o) → Q (.ref s.heap.objs.size) { s with heap := h', toks := tk }) :
    wpAny (model P w) A (call (.type "set") [.ref l]) Q E s := by
  have cnt : its.size = xs.length := by
    have q := IntsAre.length tx
    rw [Array.length_toList] at q
    exact q
  obtain ⟨c, tl, order⟩ := PySem.F.called_set.mro
  have built := PySem.F.called_set.made
  have under := PySem.F.called_set.sub
  apply wpAny_call; apply codeAny_of_tree
  show wpAny _ _ (callAny (.type "set") ⟨[.ref l], []⟩) _ _ s
  refine wpAny_pure ⟨Code.quiet_builtin _ (by decide +kernel), ?_⟩
  apply codeAny_builtin PySem.F.entry_type_call
  rw [Around.under_plain (weight_type_call_type "set" [.ref l] []) rfl]
  have no := PySem.F.called_set.notType
  have may := PySem.F.called_set.canCreate
  have one := PySem.F.typeCall_set_1 (.ref l)
  repeat (any_goals (first | assumption | wp_step))
  refine codeAny_mono (code_set_led1 (.ref l) (E := E) (Q₁ := fun r s₁ => r = .ref s.heap.objs.size ∧ s₁ = { s with heap := s.heap.push (newS w) }) ⟨rfl, rfl⟩) fun r s₁ got => ?_
  match r, got with
  | .ok (.ret r), ⟨e1, e2⟩ =>
    subst e1; subst e2
    have at0 : (s.heap.push (newS w)).get? s.heap.objs.size = some (newS w) := Heap.get?_push_size _ rfl
    have kind : Shared.TypeIs { s with heap := s.heap.push (newS w) } (.ref s.heap.objs.size) "set" := ⟨_, at0, rfl⟩
    have look := PySem.F.called_set.init.lookup
    have bind := PySem.F.called_set.init.bind (.ref s.heap.objs.size)
    repeat (any_goals (first | assumption | wp_step))
    refine codeAny_mono (codeAny_call_builtin (R := wants (fun r s₂ => r = .none ∧ ∃ h' tk c, s₂ = { s with heap := h', toks := tk } ∧ SetR w h' s.heap.objs.size (fun j => decide (j ∈ xs)) c ∧ ∀ b o, s.heap.get? b = some o → h'.get? b = some o) E) PySem.F.called_set.init.plain PySem.F.entry_set_init (check_set_init_1 kind ?_)) fun r₂ s₂ got₂ => ?_
    · have far : l < s.heap.objs.size := by obtain ⟨o, z, _⟩ := hl; exact Heap.lt_size z
      have hl0 : (s.heap.push (newS w)).IsList l its := hl.push _
      obtain ⟨⟨cl, di, da, sl⟩, atl, ecl, ct, eda⟩ := hl0
      simp only at ecl eda
      subst ecl; subst eda
      have d1 := PySem.F.sub_list_set
      have d2 := PySem.F.sub_list_frozenset
      have d3 : (Value.type "list" == Value.type "dict") = false := by decide
      have hl1 : (s.heap.push (newS w)).IsList l its := ⟨_, atl, rfl, ct, rfl⟩
      unfold Builtin.«set.__init__» noKeywords Builtin.Frozenset.updateFrom
      generalize walkIt : pyIter = PW
      wp_walk
      subst walkIt
      refine wpAny_pyIter_list hl1 (wpAny_bind (wpAny_runValue ?_))
      have calm3 : A.in1.in1.in1.handled = none := by simp [calm]
      have sz := size_new s.heap (newS w)
      have n1 : l ≠ (s.heap.push (newS w)).objs.size := by rw [sz]; exact Nat.ne_of_lt (Nat.lt_succ_of_lt far)
      have n2 : s.heap.objs.size ∉ [(s.heap.push (newS w)).objs.size, l] := by
        simp only [List.mem_cons, List.not_mem_nil, or_false, not_or, sz]; exact ⟨Nat.ne_of_lt (Nat.lt_succ_self _), Nat.ne_of_gt far⟩
      have hval : ∀ (i : Nat) (v : Value), its[i]? = some v → ∃ k t, xs[i]? = some k ∧ v = .int k t := fun i v hv => by
        have hi : i < xs.length := by rw [← cnt]; exact (Array.getElem?_eq_some_iff.mp hv).1
        obtain ⟨t, e⟩ := PyProof.Rows.IntsAre.int_at tx i v (by rw [Array.getElem?_toList]; exact hv)
        refine ⟨xs[i], t, List.getElem?_eq_getElem hi, ?_⟩
        rw [e, List.getD_eq_getElem?_getD, List.getElem?_eq_getElem hi] <;> rfl
      refine set_update_ints ((Walks.list calm3 _ l n1 its).toS) s.heap.objs.size n2 xs cnt room hval (its.size - 0) 0 _ rfl (Nat.zero_le _) ⟨⟨_, Heap.get?_push_size _ rfl, rfl, rfl⟩, hl1.push _⟩
        ⟨0, Nat.le_refl 0, setR_new_at (Heap.get?_push_of_some _ at0)⟩ ?_
      intro s' c' mv _ new
      obtain ⟨h', g', d', tk', o'⟩ := s'
      obtain rfl : g' = s.gens := mv.gens
      obtain rfl : d' = s.drawn := mv.drawn
      obtain rfl : o' = s.os := mv.os
      refine wpAny_pure (wpAny_pure ⟨rfl, h', tk', c', rfl, new, fun b o z => ?_⟩)
      have lt := Heap.lt_size z
      refine mv.heap b o ?_ (Heap.get?_push_of_some _ (Heap.get?_push_of_some _ z))
      simp only [List.mem_cons, List.not_mem_nil, or_false, not_or, sz]
      exact ⟨Nat.ne_of_lt lt, Nat.ne_of_lt (Nat.lt_succ_of_lt lt)⟩
    · match r₂, got₂ with
      | .ok (.ret r), ⟨e1, h', tk, c', e2, new, keep⟩ =>
        subst e1; subst e2
        repeat (any_goals (first | assumption | wp_step))
        exact h _ _ _ new keep
      | .error e, z => exact z
  | .error e, z => exact z
end
section
variable {X : Cx}
/-- set(list of ints) whose members are all in D -/
def rSetI (K : PySem.W.Frag) (w : World) : List V → Hp → VK → Prop := fun vs H Q => ∃ (a : Addr) (ns D : List Int), vs = [V.ref a] ∧ SqL K H a (ns.map V.int) ∧ ns.length + 1 < scanBound ∧ (∀ k ∈ ns, k ∈ D) ∧
  ∀ (p : Addr) (n : Nat), H p = none → n ≤ D.length → Q (.ref p) (upd H p (SetO w p (fun j => decide (j ∈ ns)) n))
theorem cr_setI (hcalm : X.calm = true) : CallR X (.type "set") (rSetI X.K X.w) := by
  intro pins s σ H vs us Q I r h
  obtain ⟨a, ns, D, rfl, hs, room, sub, q⟩ := h
  obtain ⟨its, rv, hL, hz⟩ := I.list hs
  rw [Vals.ref1 r]
  refine set_ints (I.ok.hd hcalm) hL.isList (by simpa using ints_of_vals rv) room fun h' tk c new keep => ?_
  have few := new.few (D := D) fun k hk => sub k (of_decide_eq_true hk)
  exact ⟨.ref _, upd H s.heap.objs.size (SetO X.w s.heap.objs.size (fun j => decide (j ∈ ns)) c), I.laid (t' := tk) keep (Nat.le_refl _) (setO_new new), rfl, q _ _ (I.hok.fresh (Nat.le_refl _)) few⟩
end
end L2
/-! sorted(list), of any length: ints, texts. -/
namespace L2
open PySem PySem.Spec PyProof.Rows
section
variable {X : Cx}
def rSortedN (K : PySem.W.Frag) : List V → Hp → VK → Prop := fun vs H Q => ∃ (a : Addr) (ns : List Int), vs = [V.ref a] ∧ SqL K H a (ns.map V.int) ∧ ns.length ≤ sizeLine ∧
  ∀ (ns' : List Int) (p : Addr), ns'.Perm ns → ns'.Pairwise (· ≤ ·) → H p = none → Q (.ref p) (upd H p (.lst (ns'.map V.int)))
def rSortedSN (K : PySem.W.Frag) : List V → Hp → VK → Prop := fun vs H Q => ∃ (a : Addr) (xs : List Str), vs = [V.ref a] ∧ SqL K H a (xs.map V.str) ∧ xs.length ≤ sizeLine ∧
  ∀ (ys : List Str) (p : Addr), ys.Perm xs → sortedS ys = true → H p = none → Q (.ref p) (upd H p (.lst (ys.map V.str)))
theorem cr_sortedN : CallR X (.builtin "sorted") (rSortedN X.K) := by
  intro pins s σ H vs us Q I r h
  obtain ⟨a, ns, rfl, hs, few, q⟩ := h
  obtain ⟨its, rv, hl, _⟩ := I.list hs
  rw [Vals.ref1 r]
  have hi := rv.ints
  refine PyProof.Rows.sorted_intsAny hl.isList hi (by rw [hi.length]; exact few) fun out ns' h1 h2 h3 => ?_
  obtain ⟨ep, he'⟩ := PyProof.Rows.sortedAll_at s.heap its out
  have hlen : (ns'.map V.int).length ≤ sizeLine := by rw [List.length_map, h2.length_eq]; exact few
  exact ⟨.ref _, upd H (s.heap.objs.size + 1) (.lst (ns'.map V.int)), I.laid (t' := s.toks) (fun _ _ => PyProof.Rows.sortedAll_old) (Nat.le_succ _) ⟨hlen, out.toList, ep, vals_of_ints h1, he'⟩, rfl, q ns' _ h2 h3 (I.hok.fresh (Nat.le_succ _))⟩
theorem cr_sortedSN : CallR X (.builtin "sorted") (rSortedSN X.K) := by
  intro pins s σ H vs us Q I r h
  obtain ⟨a, xs, rfl, hs, few, q⟩ := h
  obtain ⟨its, rv, hl, _⟩ := I.list hs
  rw [Vals.ref1 r]
  have hlen0 := rv.length
  rw [List.length_map] at hlen0
  refine PyProof.Rows.sorted_strsAny hl.isList rv.strs (by rw [← hlen0]; exact few) fun out ys h1 h2 h3 => ?_
  obtain ⟨ep, he'⟩ := PyProof.Rows.sortedAll_at s.heap its out
  have hlen : (ys.map V.str).length ≤ sizeLine := by rw [List.length_map, h2.length_eq]; exact few
  exact ⟨.ref _, upd H (s.heap.objs.size + 1) (.lst (ys.map V.str)), I.laid (t' := s.toks) (fun _ _ => PyProof.Rows.sortedAll_old) (Nat.le_succ _) ⟨hlen, out.toList, ep, vals_of_strs h1, he'⟩, rfl, q ys _ h2 h3 (I.hok.fresh (Nat.le_succ _))⟩
end
end L2
/-! What a program's top has left, read by a Hook: facts of K as Bools, each def's object as data. -/
namespace Hk
open PySem PySem.Spec PyProof.Rows L2
/-- a def's object, as far as it can be told by data -/
abbrev FV : Type := Option (Str × Str × Arguments × FuncBody × Scope × Addr × List Str × Addr)
def fv (K : PySem.W.Frag) (a : Addr) : FV := match K.lookup a with
  | some ⟨_, _, .func fd, _⟩ => some (fd.name, fd.qualname, fd.params, fd.body, fd.scope, fd.globals, fd.closure.map (·.1), fd.builtins)
  | _ => none
def isNo : Value → Bool
  | .none => true
  | _ => false
theorem isNo_is {v : Value} (h : isNo v = true) : v = .none := by cases v <;> first | rfl | cases h
def fb (K : PySem.W.Frag) (a : Addr) (q : Str) : Bool := match K.lookup a with
  | some ⟨_, _, .func fd, _⟩ => PySem.W.codeIn K fd.code q && isNo fd.defaults
  | _ => false
theorem fb_get {K : PySem.W.Frag} {a : Addr} {x q : Str} {ps : Arguments} {body : List Stmt} {sc : Scope} (e : fv K a = some (x, q, ps, .stmts body, sc, mainGlobals, [], builtinsNs)) (c : fb K a q = true) :
    ∃ oc od osl kV doc pm an cdv ct, K.lookup a = some ⟨oc, od, .func (PySem.W.fnOf x q ps body sc .none kV doc pm an cdv ct), osl⟩ ∧ PySem.W.codeIn K cdv q = true := by
  unfold fv at e
  unfold fb at c
  cases lk : K.lookup a with
  | none => rw [lk] at e; cases e
  | some o =>
    obtain ⟨oc, od, dt, osl⟩ := o
    rw [lk] at e c
    cases dt with
    | func fd =>
      obtain ⟨n1, n2, n3, n4, n5, n6, n7, n8, n9, n10, n11, n12, n13, n14, n15⟩ := fd
      have e2 : (some (n1, n2, n3, n4, n5, n6, n7.map (·.1), n15) : FV) = some (x, q, ps, .stmts body, sc, mainGlobals, [], builtinsNs) := e
      simp only [Option.some.injEq, Prod.mk.injEq] at e2
      obtain ⟨h1, h2, h3, h4, h5, h6, h7, h8⟩ := e2
      have h7 := List.map_eq_nil_iff.mp h7
      subst h1 h2 h3 h4 h5 h6 h7 h8
      have c2 : (PySem.W.codeIn K n13 n2 && isNo n8) = true := c
      rw [Bool.and_eq_true] at c2
      have d0 := isNo_is c2.2
      subst d0
      exact ⟨oc, od, osl, n9, n10, n11, n12, n13, n14, rfl, c2.1⟩
    | _ => cases e
/-- the function within a property, a class method, a static method -/
def pa (K : PySem.W.Frag) (p : Addr) (kind : String) : Addr := match PySem.W.recIn K p kind with
  | some (.ref f :: _) => f
  | _ => 0
def pb (K : PySem.W.Frag) (p : Addr) (kind : String) : Bool := match PySem.W.recIn K p kind with
  | some (.ref _ :: _) => true
  | _ => false
theorem pb_get {K : PySem.W.Frag} {p : Addr} {kind : String} (c : pb K p kind = true) : ∃ r, PySem.W.recIn K p kind = some (.ref (pa K p kind) :: r) := by
  unfold pb at c
  unfold pa
  cases e : PySem.W.recIn K p kind with
  | none => rw [e] at c; cases c
  | some l =>
    rw [e] at c
    cases l with
    | nil => cases c
    | cons v r => cases v <;> first | exact ⟨r, rfl⟩ | cases c
/-- a class's attribute by a getter -/
def gb (K : PySem.W.Frag) (C : Addr) (m : Str) (g : String) (p : Addr) : Bool := match PySem.W.findCls K (.ref C) (.type "type") m with
  | some (.get (.builtin h) (.ref q) .none (.ref D)) => decide (h = g) && (decide (q = p) && decide (D = C))
  | _ => false
theorem gb_get {K : PySem.W.Frag} {C p : Addr} {m : Str} {g : String} (c : gb K C m g p = true) : PySem.W.findCls K (.ref C) (.type "type") m = some (.get (.builtin g) (.ref p) .none (.ref C)) := by
  unfold gb at c
  split at c
  · rename_i h q D e
    rw [Bool.and_eq_true, Bool.and_eq_true] at c
    rw [e, of_decide_eq_true c.1, of_decide_eq_true c.2.1, of_decide_eq_true c.2.2]
  · cases c
/-- a class's constant -/
def ib (K : PySem.W.Frag) (C : Addr) (m : Str) (i : Int) : Bool := match PySem.W.findCls K (.ref C) (.type "type") m with
  | some (.val (.int j _)) => decide (j = i)
  | _ => false
theorem ib_get {K : PySem.W.Frag} {C : Addr} {m : Str} {i : Int} (c : ib K C m i = true) : ∃ t, PySem.W.findCls K (.ref C) (.type "type") m = some (.val (.int i t)) := by
  unfold ib at c
  split at c
  · rename_i j t e
    exact ⟨t, by rw [e, of_decide_eq_true c]⟩
  · cases c
/-- a name of the module that is a text, a number -/
def sb (K : PySem.W.Frag) (x z : Str) : Bool := match PySem.W.nsIn K mainGlobals x with
  | some (some (.str y _)) => decide (y = z)
  | _ => false
theorem sb_get {K : PySem.W.Frag} {x z : Str} (c : sb K x z = true) : ∃ t, PySem.W.nsIn K mainGlobals x = some (some (.str z t)) := by
  unfold sb at c
  split at c
  · rename_i y t e
    exact ⟨t, by rw [e, of_decide_eq_true c]⟩
  · cases c
def nb (K : PySem.W.Frag) (x : Str) (i : Int) : Bool := match PySem.W.nsIn K mainGlobals x with
  | some (some (.int j _)) => decide (j = i)
  | _ => false
theorem nb_get {K : PySem.W.Frag} {x : Str} {i : Int} (c : nb K x i = true) : ∃ t, PySem.W.nsIn K mainGlobals x = some (some (.int i t)) := by
  unfold nb at c
  split at c
  · rename_i j t e
    exact ⟨t, by rw [e, of_decide_eq_true c]⟩
  · cases c
/-- an own error class -/
def eb (K : PySem.W.Frag) (C : Addr) : Bool := match K.lookup C with
  | some ⟨.type t, _, .cls cd, sl⟩ => (match cd.mro, sl.toList with
    | .ref D :: bm, [_, _, _, _, some (.builtin n), _] => decide (t = "type") && (decide (D = C) && (decide (n = "ValueError.__new__") && (!cd.hasDel && (cd.hasDict && PySem.HandSPX.refsVE bm))))
    | _, _ => false)
  | _ => false
theorem eb_get {K : PySem.W.Frag} {C : Addr} (c : eb K C = true) : ∃ (n q : Str) (N : Addr) (bs bm : List Value) (sn : List Str) (sub : List Value) (ab : Bool) (col : Option Bool) (dd : Option Addr) (w0 w1 w2 w3 w5 : Option Value),
    K.lookup C = some (excClassObj n q C N bs bm true sn sub ab col dd w0 w1 w2 w3 w5 "ValueError.__new__") ∧ PySem.HandSPX.refsVE bm = true := by
  unfold eb at c
  split at c
  · rename_i t dd cd sl lk
    split at c
    · rename_i D bm k0 k1 k2 k3 n k5 em es
      simp only [Bool.and_eq_true, decide_eq_true_eq, Bool.not_eq_true'] at c
      obtain ⟨h1, h2, h3, h4, h5, h6⟩ := c
      obtain ⟨m1, m2, m3, m4, m5, m6, m7, m8, m9, m10, m11⟩ := cd
      dsimp only at em h4 h5
      subst h1 h2 h3 h4 h5 em
      have e2 : sl = #[k0, k1, k2, k3, some (.builtin "ValueError.__new__"), k5] := by
        rw [← es]
      subst e2
      exact ⟨_, _, _, _, _, _, _, _, _, _, _, _, _, _, _, lk, h6⟩
    · cases c
  · cases c
/-- its __init__ -/
def eib (K : PySem.W.Frag) (a C : Addr) (q file : Str) : Bool := match K.lookup a with
  | some ⟨_, _, .func fd, _⟩ => (match fd.code, fd.closure with
    | .ref d, [(x, cc)] => PySem.W.codeIn K (.ref d) q && (isNo fd.defaults && (isNo fd.kwdefaults && ((match K.lookup d with
      | some ⟨_, _, .fields vs, _⟩ => (match (vs[2]? : Option Value) with
        | some (.str f _) => file == f
        | _ => false)
      | _ => false) && (match K.lookup cc with
      | some ⟨_, _, .cell (some (.ref D)), _⟩ => decide (D = C)
      | _ => false))))
    | _, _ => false)
  | _ => false
theorem eib_get {K : PySem.W.Frag} {a C : Addr} {x q file : Str} {ps : Arguments} {body : List Stmt} {sc : Scope} (e : fv K a = some (x, q, ps, FuncBody.stmts body, sc, mainGlobals, [Str.ofString "__class__"], builtinsNs)) (c : eib K a C q file = true) :
    ∃ oc od doc pm an cda ct cc osl, K.lookup a = some ⟨oc, od, .func (PySem.W.ksFn x q ps body sc .none .none doc pm an (.ref cda) ct cc), osl⟩ ∧ PySem.W.codeIn K (.ref cda) q = true ∧
      ∃ ccl cdd vs ccs f tf, K.lookup cda = some ⟨ccl, cdd, .fields vs, ccs⟩ ∧ vs[2]? = some (.str f tf) ∧ (file == f) = true ∧ ∃ cl cld csl, K.lookup cc = some ⟨cl, cld, .cell (some (.ref C)), csl⟩ := by
  unfold fv at e
  unfold eib at c
  cases lk : K.lookup a with
  | none => rw [lk] at e; cases e
  | some o =>
    obtain ⟨oc, od, dt, osl⟩ := o
    rw [lk] at e c
    cases dt with
    | func fd =>
      obtain ⟨n1, n2, n3, n4, n5, n6, n7, n8, n9, n10, n11, n12, n13, n14, n15⟩ := fd
      have e2 : (some (n1, n2, n3, n4, n5, n6, n7.map (·.1), n15) : FV) = some (x, q, ps, FuncBody.stmts body, sc, mainGlobals, [Str.ofString "__class__"], builtinsNs) := e
      simp only [Option.some.injEq, Prod.mk.injEq] at e2
      obtain ⟨h1, h2, h3, h4, h5, h6, h7, h8⟩ := e2
      dsimp only at c
      cases n7 with
      | nil => cases h7
      | cons y r =>
        cases r with
        | cons _ _ => exact absurd (congrArg List.length h7) (by simp)
        | nil =>
          obtain ⟨y1, cc⟩ := y
          obtain rfl : y1 = Str.ofString "__class__" := by
            have z : [y1] = [Str.ofString "__class__"] := h7
            injection z
          cases n13 with
          | ref d =>
            dsimp only at c
            simp only [Bool.and_eq_true] at c
            obtain ⟨c1, c2, c3, c4, c5⟩ := c
            have d8 := isNo_is c2
            have d9 := isNo_is c3
            subst h1 h2 h3 h4 h5 h6 h8 d8 d9
            split at c4
            · rename_i ccl cdd vs ccs lk2
              split at c4
              · rename_i f tf ev
                split at c5
                · rename_i cl cld D csl lk3
                  obtain rfl : D = C := of_decide_eq_true c5
                  exact ⟨oc, od, n10, n11, n12, d, n14, cc, osl, rfl, c1, ccl, cdd, vs, ccs, f, tf, lk2, ev, c4, cl, cld, csl, lk3⟩
                · cases c5
              · cases c4
            · cases c4
          | _ => cases c
    | _ => cases e
/-! ### the Hook -/
/-- what an object names that a fact may ask for: no code object's fields, no cell's content -/
def nx (g : Addr → Option Obj) (a : Addr) : List Addr := match g a with
  | some ⟨c, _, dt, _⟩ => (match dt with
    | .dict es _ => es.toList.flatMap fun e => He.refV e.val
    | .func fd => He.refV fd.code ++ fd.closure.map (·.2)
    | .cls cd => [cd.ns]
    | .fields vs => (match c with
      | .type t => if t = "property" then vs.toList.flatMap He.refV else if t = "classmethod" then vs.toList.flatMap He.refV else if t = "staticmethod" then vs.toList.flatMap He.refV else []
      | _ => [])
    | _ => [])
  | none => []
def nxs (g : Addr → Option Obj) (as : List Addr) : Nat → List Addr
  | 0 => as
  | n + 1 => as ++ nxs g (as.flatMap (nx g)) n
def frag (n : Nat) (g : Addr → Option Obj) : PySem.W.Frag := He.frG g (cStatics :: nxs g [mainGlobals] n)
abbrev Al : Type := Bool × List FV
def ob (n : Nat) (ex : PySem.W.Frag → Bool) (ats : PySem.W.Frag → List Addr) (g : Addr → Option Obj) : Al := (ex (frag n g), (ats (frag n g)).map (fv (frag n g)))
structure Says (ex : PySem.W.Frag → Bool) (ats : PySem.W.Frag → List Addr) (vals : List FV) (K : PySem.W.Frag) : Prop where
  ex : ex K = true
  fn : (ats K).map (fv K) = vals
def hook (n : Nat) (ex : PySem.W.Frag → Bool) (ats : PySem.W.Frag → List Addr) (vals : List FV) : PySem.W.Hook where
  α := Al
  obs := fun s => ob n ex ats s.heap.get?
  val := fun _ => (true, vals)
  says := fun _ h => ∃ K : PySem.W.Frag, K.In h ∧ Says ex ats vals K
  of := fun _ _ e => ⟨_, He.frG_in, ⟨congrArg (fun z : Al => z.1) e, congrArg (fun z : Al => z.2) e⟩⟩
  keeps := fun _ _ _ ⟨K, hK, c⟩ k => ⟨K, PySem.W.Frag.In.keeps hK k, c⟩
theorem ob_eq {n : Nat} {ex : PySem.W.Frag → Bool} {ats : PySem.W.Frag → List Addr} {vals : List FV} (s : PySem.W.SharedT) : ob n ex ats (HandSHeadRun.getT s) = (hook n ex ats vals).obs s.abs := by
  have e : HandSHeadRun.getT s = s.abs.heap.get? := funext fun a => HandSHeadRun.getT_eq s a
  rw [e] <;> rfl
theorem Says.at_ {ex : PySem.W.Frag → Bool} {ats : PySem.W.Frag → List Addr} {vals : List FV} {K : PySem.W.Frag} (c : Says ex ats vals K) (i : Nat) {a : Addr} {v : FV} (h1 : (ats K)[i]? = some a) (h2 : vals[i]? = some v) : fv K a = v := by
  have e : ((ats K).map (fv K))[i]? = vals[i]? := by rw [c.fn]
  rw [List.getElem?_map, h1, h2] at e
  exact Option.some.inj e
end Hk
namespace Hk29
open PySem PySem.Spec PyProof.Rows L2 Er
def topS (i : Nat) : Stmt := PySem.Challenge.pw_renamedhorn_k29_rings_apart.main.body.getD i (.Pass ⟨0, 0, 0, 0⟩)
abbrev s_is_name : Stmt := (topS 13)
abbrev N_is_name : List Str := ["text", "sign"]
theorem sc_is_name : FnScope N_is_name ["text"] (defScope s_is_name) := ⟨rfl, rfl, rfl, by decide +kernel, rfl, by decide +kernel, by decide +kernel⟩
abbrev s_is_literal : Stmt := (topS 14)
abbrev N_is_literal : List Str := ["text"]
theorem sc_is_literal : FnScope N_is_literal ["text"] (defScope s_is_literal) := ⟨rfl, rfl, rfl, by decide +kernel, rfl, by decide +kernel, by decide +kernel⟩
abbrev s_check_name : Stmt := (topS 15)
abbrev N_check_name : List Str := ["text"]
theorem sc_check_name : FnScope N_check_name ["text"] (defScope s_check_name) := ⟨rfl, rfl, rfl, by decide +kernel, rfl, by decide +kernel, by decide +kernel⟩
abbrev s_check_literal : Stmt := (topS 16)
abbrev N_check_literal : List Str := ["text"]
theorem sc_check_literal : FnScope N_check_literal ["text"] (defScope s_check_literal) := ⟨rfl, rfl, rfl, by decide +kernel, rfl, by decide +kernel, by decide +kernel⟩
abbrev s_name_of : Stmt := (topS 17)
abbrev N_name_of : List Str := ["literal"]
theorem sc_name_of : FnScope N_name_of ["literal"] (defScope s_name_of) := ⟨rfl, rfl, rfl, by decide +kernel, rfl, by decide +kernel, by decide +kernel⟩
abbrev s_is_positive : Stmt := (topS 18)
abbrev N_is_positive : List Str := ["literal"]
theorem sc_is_positive : FnScope N_is_positive ["literal"] (defScope s_is_positive) := ⟨rfl, rfl, rfl, by decide +kernel, rfl, by decide +kernel, by decide +kernel⟩
abbrev s_negated : Stmt := (topS 19)
abbrev N_negated : List Str := ["literal"]
theorem sc_negated : FnScope N_negated ["literal"] (defScope s_negated) := ⟨rfl, rfl, rfl, by decide +kernel, rfl, by decide +kernel, by decide +kernel⟩
abbrev s_both_signs : Stmt := (topS 20)
abbrev N_both_signs : List Str := ["names", "name", "literal"]
theorem sc_both_signs : FnScope N_both_signs ["names"] (defScope s_both_signs) := ⟨rfl, rfl, rfl, by decide +kernel, rfl, by decide +kernel, by decide +kernel⟩
abbrev s_in_order : Stmt := (topS 21)
abbrev N_in_order : List Str := ["literals", "names", "literal"]
theorem sc_in_order : FnScope N_in_order ["literals"] (defScope s_in_order) := ⟨rfl, rfl, rfl, by decide +kernel, rfl, by decide +kernel, by decide +kernel⟩
abbrev s_check_signs : Stmt := (topS 22)
abbrev N_check_signs : List Str := ["ordered", "literal"]
theorem sc_check_signs : FnScope N_check_signs ["ordered"] (defScope s_check_signs) := ⟨rfl, rfl, rfl, by decide +kernel, rfl, by decide +kernel, by decide +kernel⟩
abbrev s_needs : Stmt := (topS 24)
abbrev N_needs : List Str := ["book", "literal", "number", "other"]
theorem sc_needs : FnScope N_needs ["book", "literal"] (defScope s_needs) := ⟨rfl, rfl, rfl, by decide +kernel, rfl, by decide +kernel, by decide +kernel⟩
abbrev s_all_needs : Stmt := (topS 25)
abbrev N_all_needs : List Str := ["book", "literal"]
theorem sc_all_needs : FnScope N_all_needs ["book"] (defScope s_all_needs) := ⟨rfl, rfl, rfl, by decide +kernel, rfl, by decide +kernel, by decide +kernel⟩
abbrev s__arrivals : Stmt := (topS 26)
abbrev N__arrivals : List Str := ["table", "start", "arrivals", "waiting", "done", "literal", "number", "needed"]
theorem sc__arrivals : FnScope N__arrivals ["table", "start"] (defScope s__arrivals) := ⟨rfl, rfl, rfl, by decide +kernel, rfl, by decide +kernel, by decide +kernel⟩
abbrev s_all_reached : Stmt := (topS 27)
abbrev N_all_reached : List Str := ["book", "table", "literal"]
theorem sc_all_reached : FnScope N_all_reached ["book"] (defScope s_all_reached) := ⟨rfl, rfl, rfl, by decide +kernel, rfl, by decide +kernel, by decide +kernel⟩
abbrev s_chain : Stmt := (topS 28)
abbrev N_chain : List Str := ["book", "start", "goal", "arrivals", "backwards", "link"]
theorem sc_chain : FnScope N_chain ["book", "start", "goal"] (defScope s_chain) := ⟨rfl, rfl, rfl, by decide +kernel, rfl, by decide +kernel, by decide +kernel⟩
abbrev s_is_chain : Stmt := (topS 29)
abbrev N_is_chain : List Str := ["book", "start", "goal", "links", "end", "literal", "number", "needed"]
theorem sc_is_chain : FnScope N_is_chain ["book", "start", "goal", "links"] (defScope s_is_chain) := ⟨rfl, rfl, rfl, by decide +kernel, rfl, by decide +kernel, by decide +kernel⟩
abbrev s_Ring_init : Stmt := (inClass (topS 31) 0)
abbrev N_Ring_init : List Str := ["self", "name", "there", "back"]
theorem sc_Ring_init : FnScope N_Ring_init ["self", "name", "there", "back"] (defScope s_Ring_init) := ⟨rfl, rfl, rfl, by decide +kernel, rfl, by decide +kernel, by decide +kernel⟩
abbrev s_Ring_numbers : Stmt := (inClass (topS 31) 1)
abbrev N_Ring_numbers : List Str := ["self", "link"]
theorem sc_Ring_numbers : FnScope N_Ring_numbers ["self"] (defScope s_Ring_numbers) := ⟨rfl, rfl, rfl, by decide +kernel, rfl, by decide +kernel, by decide +kernel⟩
abbrev s_Ring_bars : Stmt := (inClass (topS 31) 2)
abbrev N_Ring_bars : List Str := ["self", "book", "opposite"]
theorem sc_Ring_bars : FnScope N_Ring_bars ["self", "book"] (defScope s_Ring_bars) := ⟨rfl, rfl, rfl, by decide +kernel, rfl, by decide +kernel, by decide +kernel⟩
abbrev s_ring_names : Stmt := (topS 32)
abbrev N_ring_names : List Str := ["book", "reached", "name"]
theorem sc_ring_names : FnScope N_ring_names ["book"] (defScope s_ring_names) := ⟨rfl, rfl, rfl, by decide +kernel, rfl, by decide +kernel, by decide +kernel⟩
abbrev s_ring_at : Stmt := (topS 33)
abbrev N_ring_at : List Str := ["book", "name", "there", "back"]
theorem sc_ring_at : FnScope N_ring_at ["book", "name"] (defScope s_ring_at) := ⟨rfl, rfl, rfl, by decide +kernel, rfl, by decide +kernel, by decide +kernel⟩
abbrev s_first_ring : Stmt := (topS 34)
abbrev N_first_ring : List Str := ["book", "names"]
theorem sc_first_ring : FnScope N_first_ring ["book"] (defScope s_first_ring) := ⟨rfl, rfl, rfl, by decide +kernel, rfl, by decide +kernel, by decide +kernel⟩
abbrev s_apart_rings : Stmt := (topS 35)
abbrev N_apart_rings : List Str := ["book", "left", "rings", "ring", "number"]
theorem sc_apart_rings : FnScope N_apart_rings ["book"] (defScope s_apart_rings) := ⟨rfl, rfl, rfl, by decide +kernel, rfl, by decide +kernel, by decide +kernel⟩
abbrev s_Clause_init : Stmt := (inClass (topS 37) 1)
abbrev N_Clause_init : List Str := ["self", "literals", "ordered"]
theorem sc_Clause_init : FnScope N_Clause_init ["self", "literals"] (defScope s_Clause_init) := ⟨rfl, rfl, rfl, by decide +kernel, rfl, by decide +kernel, by decide +kernel⟩
abbrev s_Clause_names : Stmt := (inClass (topS 37) 2)
abbrev N_Clause_names : List Str := ["self", "literal"]
theorem sc_Clause_names : FnScope N_Clause_names ["self"] (defScope s_Clause_names) := ⟨rfl, rfl, rfl, by decide +kernel, rfl, by decide +kernel, by decide +kernel⟩
abbrev s_Clause_iter : Stmt := (inClass (topS 37) 4)
abbrev N_Clause_iter : List Str := ["self"]
theorem sc_Clause_iter : FnScope N_Clause_iter ["self"] (defScope s_Clause_iter) := ⟨rfl, rfl, rfl, by decide +kernel, rfl, by decide +kernel, by decide +kernel⟩
abbrev s_Clause_contains : Stmt := (inClass (topS 37) 6)
abbrev N_Clause_contains : List Str := ["self", "x"]
theorem sc_Clause_contains : FnScope N_Clause_contains ["self", "x"] (defScope s_Clause_contains) := ⟨rfl, rfl, rfl, by decide +kernel, rfl, by decide +kernel, by decide +kernel⟩
abbrev s_turned_literal : Stmt := (topS 39)
abbrev s_turned_clause : Stmt := (topS 40)
abbrev s__names_in : Stmt := (topS 42)
abbrev N__names_in : List Str := ["clauses", "clause", "name"]
theorem sc__names_in : FnScope N__names_in ["clauses"] (defScope s__names_in) := ⟨rfl, rfl, rfl, by decide +kernel, rfl, by decide +kernel, by decide +kernel⟩
abbrev s__check_names : Stmt := (topS 43)
abbrev N__check_names : List Str := ["clauses"]
theorem sc__check_names : FnScope N__check_names ["clauses"] (defScope s__check_names) := ⟨rfl, rfl, rfl, by decide +kernel, rfl, by decide +kernel, by decide +kernel⟩
abbrev s__check_room : Stmt := (topS 44)
abbrev N__check_room : List Str := ["placed", "clause"]
theorem sc__check_room : FnScope N__check_room ["placed", "clause"] (defScope s__check_room) := ⟨rfl, rfl, rfl, by decide +kernel, rfl, by decide +kernel, by decide +kernel⟩
abbrev s__placed_from_one : Stmt := (topS 45)
abbrev N__placed_from_one : List Str := ["clauses", "placed", "number", "clause"]
theorem sc__placed_from_one : FnScope N__placed_from_one ["clauses"] (defScope s__placed_from_one) := ⟨rfl, rfl, rfl, by decide +kernel, rfl, by decide +kernel, by decide +kernel⟩
abbrev s__all_turned : Stmt := (topS 46)
abbrev s_book_of : Stmt := (topS 47)
abbrev N_book_of : List Str := ["placed", "last", "book"]
theorem sc_book_of : FnScope N_book_of ["placed", "last"] (defScope s_book_of) := ⟨rfl, rfl, rfl, by decide +kernel, rfl, by decide +kernel, by decide +kernel⟩
abbrev s_Book_init : Stmt := (inClass (topS 48) 3)
abbrev N_Book_init : List Str := ["self", "clauses"]
theorem sc_Book_init : FnScope N_Book_init ["self", "clauses"] (defScope s_Book_init) := ⟨rfl, rfl, rfl, by decide +kernel, rfl, by decide +kernel, by decide +kernel⟩
abbrev s_Book_numbered : Stmt := (inClass (topS 48) 4)
abbrev N_Book_numbered : List Str := ["cls", "pairs", "placed", "last", "number", "clause"]
theorem sc_Book_numbered : FnScope N_Book_numbered ["cls", "pairs"] (defScope s_Book_numbered) := ⟨rfl, rfl, rfl, by decide +kernel, rfl, by decide +kernel, by decide +kernel⟩
abbrev s_Book_names : Stmt := (inClass (topS 48) 5)
abbrev N_Book_names : List Str := ["self"]
theorem sc_Book_names : FnScope N_Book_names ["self"] (defScope s_Book_names) := ⟨rfl, rfl, rfl, by decide +kernel, rfl, by decide +kernel, by decide +kernel⟩
abbrev s_Book_next_number : Stmt := (inClass (topS 48) 6)
abbrev s_Book_put : Stmt := (inClass (topS 48) 7)
abbrev s_Book_drop : Stmt := (inClass (topS 48) 8)
abbrev N_Book_drop : List Str := ["self", "number", "clause", "other", "kept"]
theorem sc_Book_drop : FnScope N_Book_drop ["self", "number"] (defScope s_Book_drop) := ⟨rfl, rfl, rfl, by decide +kernel, rfl, by decide +kernel, by decide +kernel⟩
abbrev s_Book_copy : Stmt := (inClass (topS 48) 9)
abbrev N_Book_copy : List Str := ["self"]
theorem sc_Book_copy : FnScope N_Book_copy ["self"] (defScope s_Book_copy) := ⟨rfl, rfl, rfl, by decide +kernel, rfl, by decide +kernel, by decide +kernel⟩
abbrev s_Book_iter : Stmt := (inClass (topS 48) 10)
abbrev N_Book_iter : List Str := ["self"]
theorem sc_Book_iter : FnScope N_Book_iter ["self"] (defScope s_Book_iter) := ⟨rfl, rfl, rfl, by decide +kernel, rfl, by decide +kernel, by decide +kernel⟩
abbrev s_Book_len : Stmt := (inClass (topS 48) 11)
abbrev s_Book_contains : Stmt := (inClass (topS 48) 12)
abbrev N_Book_contains : List Str := ["self", "x"]
theorem sc_Book_contains : FnScope N_Book_contains ["self", "x"] (defScope s_Book_contains) := ⟨rfl, rfl, rfl, by decide +kernel, rfl, by decide +kernel, by decide +kernel⟩
abbrev s_Book_getitem : Stmt := (inClass (topS 48) 13)
abbrev N_Book_getitem : List Str := ["self", "at"]
theorem sc_Book_getitem : FnScope N_Book_getitem ["self", "at"] (defScope s_Book_getitem) := ⟨rfl, rfl, rfl, by decide +kernel, rfl, by decide +kernel, by decide +kernel⟩
abbrev s_Book_setitem : Stmt := (inClass (topS 48) 14)
abbrev s__law_source : Stmt := (topS 50)
abbrev N__law_source : List Str := ["_law_script"]
theorem sc__law_source : FnScope N__law_source ["_law_script"] (defScope s__law_source) := ⟨rfl, rfl, rfl, by decide +kernel, rfl, by decide +kernel, by decide +kernel⟩
abbrev s__law_take : Stmt := (topS 51)
abbrev N__law_take : List Str := ["_law_source_here", "_law_many", "_law_mixed", "_law_cell", "_law_value"]
theorem sc__law_take : FnScope N__law_take ["_law_source_here", "_law_many"] (defScope s__law_take) := ⟨rfl, rfl, rfl, by decide +kernel, rfl, by decide +kernel, by decide +kernel⟩
abbrev s__law_word : Stmt := (topS 52)
abbrev N__law_word : List Str := ["_law_source_here", "_law_size", "_law_letters", "_law_signs", "_law_word_here", "_law_number", "_law_k"]
theorem sc__law_word : FnScope N__law_word ["_law_source_here", "_law_size"] (defScope s__law_word) := ⟨rfl, rfl, rfl, by decide +kernel, rfl, by decide +kernel, by decide +kernel⟩
abbrev s__law_names : Stmt := (topS 53)
abbrev N__law_names : List Str := ["_law_source_here", "_law_many", "_law_letters", "_law_style", "_law_size", "_law_at", "_law_base", "_law_shift", "_law_pace", "_law_names_here", "_law_k", "_law_letter"]
theorem sc__law_names : FnScope N__law_names ["_law_source_here", "_law_many"] (defScope s__law_names) := ⟨rfl, rfl, rfl, by decide +kernel, rfl, by decide +kernel, by decide +kernel⟩
abbrev s__law_flip : Stmt := (topS 54)
abbrev N__law_flip : List Str := ["_law_literal"]
theorem sc__law_flip : FnScope N__law_flip ["_law_literal"] (defScope s__law_flip) := ⟨rfl, rfl, rfl, by decide +kernel, rfl, by decide +kernel, by decide +kernel⟩
abbrev s__law_name : Stmt := (topS 55)
abbrev N__law_name : List Str := ["_law_literal"]
theorem sc__law_name : FnScope N__law_name ["_law_literal"] (defScope s__law_name) := ⟨rfl, rfl, rfl, by decide +kernel, rfl, by decide +kernel, by decide +kernel⟩
abbrev s__law_sorted : Stmt := (topS 56)
abbrev N__law_sorted : List Str := ["_law_names_here", "_law_result", "_law_name_here", "_law_each"]
theorem sc__law_sorted : FnScope N__law_sorted ["_law_names_here"] (defScope s__law_sorted) := ⟨rfl, rfl, rfl, by decide +kernel, rfl, by decide +kernel, by decide +kernel⟩
abbrev s__law_same : Stmt := (topS 57)
abbrev N__law_same : List Str := ["_law_one", "_law_other", "_law_lists", "_law_k"]
theorem sc__law_same : FnScope N__law_same ["_law_one", "_law_other"] (defScope s__law_same) := ⟨rfl, rfl, rfl, by decide +kernel, rfl, by decide +kernel, by decide +kernel⟩
abbrev s__law_row : Stmt := (topS 58)
abbrev N__law_row : List Str := ["_law_source_here", "_law_names_here", "_law_most", "_law_row_here", "_law_k", "_law_name_here"]
theorem sc__law_row : FnScope N__law_row ["_law_source_here", "_law_names_here", "_law_most"] (defScope s__law_row) := ⟨rfl, rfl, rfl, by decide +kernel, rfl, by decide +kernel, by decide +kernel⟩
abbrev s__law_knot : Stmt := (topS 59)
abbrev N__law_knot : List Str := ["_law_one", "_law_other", "_law_source_here", "_law_rows", "_law_left"]
theorem sc__law_knot : FnScope N__law_knot ["_law_one", "_law_other", "_law_source_here"] (defScope s__law_knot) := ⟨rfl, rfl, rfl, by decide +kernel, rfl, by decide +kernel, by decide +kernel⟩
abbrev s__law_clause : Stmt := (topS 60)
abbrev N__law_clause : List Str := ["_law_row_here"]
theorem sc__law_clause : FnScope N__law_clause ["_law_row_here"] (defScope s__law_clause) := ⟨rfl, rfl, rfl, by decide +kernel, rfl, by decide +kernel, by decide +kernel⟩
abbrev s__law_numbers : Stmt := (topS 61)
abbrev N__law_numbers : List Str := ["_law_source_here", "_law_many", "_law_gaps", "_law_numbers_here", "_law_last", "_law_k"]
theorem sc__law_numbers : FnScope N__law_numbers ["_law_source_here", "_law_many"] (defScope s__law_numbers) := ⟨rfl, rfl, rfl, by decide +kernel, rfl, by decide +kernel, by decide +kernel⟩
abbrev s__law_book : Stmt := (topS 62)
abbrev N__law_book : List Str := ["_law_numbers_here", "_law_rows", "_law_k"]
theorem sc__law_book : FnScope N__law_book ["_law_numbers_here", "_law_rows"] (defScope s__law_book) := ⟨rfl, rfl, rfl, by decide +kernel, rfl, by decide +kernel, by decide +kernel⟩
abbrev s__law_names_in : Stmt := (topS 63)
abbrev N__law_names_in : List Str := ["_law_rows", "_law_names_here", "_law_row_here", "_law_literal"]
theorem sc__law_names_in : FnScope N__law_names_in ["_law_rows"] (defScope s__law_names_in) := ⟨rfl, rfl, rfl, by decide +kernel, rfl, by decide +kernel, by decide +kernel⟩
abbrev s__law_reach : Stmt := (topS 64)
abbrev N__law_reach : List Str := ["_law_rows", "_law_literal", "_law_reached", "_law_k", "_law_row_here", "_law_other"]
theorem sc__law_reach : FnScope N__law_reach ["_law_rows", "_law_literal"] (defScope s__law_reach) := ⟨rfl, rfl, rfl, by decide +kernel, rfl, by decide +kernel, by decide +kernel⟩
abbrev s__law_rings : Stmt := (topS 65)
abbrev N__law_rings : List Str := ["_law_rows", "_law_result", "_law_name_here"]
theorem sc__law_rings : FnScope N__law_rings ["_law_rows"] (defScope s__law_rings) := ⟨rfl, rfl, rfl, by decide +kernel, rfl, by decide +kernel, by decide +kernel⟩
abbrev s__law_is_link : Stmt := (topS 66)
abbrev N__law_is_link : List Str := ["_law_numbers_here", "_law_rows", "_law_link", "_law_row_here"]
theorem sc__law_is_link : FnScope N__law_is_link ["_law_numbers_here", "_law_rows", "_law_link"] (defScope s__law_is_link) := ⟨rfl, rfl, rfl, by decide +kernel, rfl, by decide +kernel, by decide +kernel⟩
abbrev s__law_is_chain : Stmt := (topS 67)
abbrev N__law_is_chain : List Str := ["_law_numbers_here", "_law_rows", "_law_start", "_law_goal", "_law_links", "_law_place", "_law_link"]
theorem sc__law_is_chain : FnScope N__law_is_chain ["_law_numbers_here", "_law_rows", "_law_start", "_law_goal", "_law_links"] (defScope s__law_is_chain) := ⟨rfl, rfl, rfl, by decide +kernel, rfl, by decide +kernel, by decide +kernel⟩
abbrev s__law_loop : Stmt := (topS 68)
abbrev N__law_loop : List Str := ["_law_source_here", "_law_names_here", "_law_literals", "_law_rows", "_law_k", "_law_name_here"]
theorem sc__law_loop : FnScope N__law_loop ["_law_source_here", "_law_names_here"] (defScope s__law_loop) := ⟨rfl, rfl, rfl, by decide +kernel, rfl, by decide +kernel, by decide +kernel⟩
abbrev s__law_numbers_of : Stmt := (topS 69)
abbrev N__law_numbers_of : List Str := ["_law_links", "_law_result", "_law_number", "_law_link"]
theorem sc__law_numbers_of : FnScope N__law_numbers_of ["_law_links"] (defScope s__law_numbers_of) := ⟨rfl, rfl, rfl, by decide +kernel, rfl, by decide +kernel, by decide +kernel⟩
abbrev s__law_ring_holds : Stmt := (topS 70)
abbrev N__law_ring_holds : List Str := ["_law_numbers_here", "_law_rows", "_law_name_here", "_law_there", "_law_back"]
theorem sc__law_ring_holds : FnScope N__law_ring_holds ["_law_numbers_here", "_law_rows", "_law_name_here", "_law_there", "_law_back"] (defScope s__law_ring_holds) := ⟨rfl, rfl, rfl, by decide +kernel, rfl, by decide +kernel, by decide +kernel⟩
abbrev s__law_knots : Stmt := (topS 71)
abbrev N__law_knots : List Str := ["_law_source_here", "_law_names_here", "_law_rows", "_law_k", "_law_one", "_law_two"]
theorem sc__law_knots : FnScope N__law_knots ["_law_source_here", "_law_names_here"] (defScope s__law_knots) := ⟨rfl, rfl, rfl, by decide +kernel, rfl, by decide +kernel, by decide +kernel⟩
abbrev s__law_world : Stmt := (topS 72)
abbrev N__law_world : List Str := ["_law_source_here", "_law_names_here", "_law_style", "_law_rows"]
theorem sc__law_world : FnScope N__law_world ["_law_source_here", "_law_names_here"] (defScope s__law_world) := ⟨rfl, rfl, rfl, by decide +kernel, rfl, by decide +kernel, by decide +kernel⟩
abbrev s__law_ring : Stmt := (topS 73)
abbrev N__law_ring : List Str := ["_law_book_here", "_law_numbers_here", "_law_rows", "_law_ring_here"]
theorem sc__law_ring : FnScope N__law_ring ["_law_book_here", "_law_numbers_here", "_law_rows", "_law_ring_here"] (defScope s__law_ring) := ⟨rfl, rfl, rfl, by decide +kernel, rfl, by decide +kernel, by decide +kernel⟩
abbrev s__law_apart : Stmt := (topS 74)
abbrev N__law_apart : List Str := ["_law_book_here", "_law_numbers_here", "_law_rows", "_law_told", "_law_seen", "_law_ring_here", "_law_left", "_law_own", "_law_k", "_law_number"]
theorem sc__law_apart : FnScope N__law_apart ["_law_book_here", "_law_numbers_here", "_law_rows"] (defScope s__law_apart) := ⟨rfl, rfl, rfl, by decide +kernel, rfl, by decide +kernel, by decide +kernel⟩
abbrev s_law : Stmt := (topS 75)
abbrev N_law : List Str := ["_law_script", "_law_source_here", "_law_names_here", "_law_rows", "_law_numbers_here", "_law_book_here", "_law_told", "_law_at"]
theorem sc_law : FnScope N_law ["_law_script"] (defScope s_law) := ⟨rfl, rfl, rfl, by decide +kernel, rfl, by decide +kernel, by decide +kernel⟩
abbrev me_BadName : PySem.Expr := (.JoinedStr [(.Constant (.str "not a name: ") 0 ⟨10, 27, 10, 39⟩), (.FormattedValue (.Name "text" ⟨10, 40, 10, 44⟩) 114 none ⟨10, 39, 10, 47⟩)] ⟨10, 25, 10, 48⟩)
abbrev ea_BadName : Arguments := (args1 "text" ⟨9, 17, 9, 21⟩ ⟨9, 23, 9, 27⟩)
abbrev eb_BadName : List Stmt := [supS me_BadName ⟨10, 8, 10, 13⟩ ⟨10, 8, 10, 15⟩ ⟨10, 8, 10, 24⟩ ⟨10, 8, 10, 49⟩ ⟨10, 8, 10, 49⟩, keepS "text" ⟨11, 8, 11, 12⟩ ⟨11, 8, 11, 17⟩ ⟨11, 20, 11, 24⟩ ⟨11, 8, 11, 24⟩]
abbrev me_BadLiteral : PySem.Expr := (.JoinedStr [(.Constant (.str "not a literal: ") 0 ⟨15, 27, 15, 42⟩), (.FormattedValue (.Name "text" ⟨15, 43, 15, 47⟩) 114 none ⟨15, 42, 15, 50⟩)] ⟨15, 25, 15, 51⟩)
abbrev ea_BadLiteral : Arguments := (args1 "text" ⟨14, 17, 14, 21⟩ ⟨14, 23, 14, 27⟩)
abbrev eb_BadLiteral : List Stmt := [supS me_BadLiteral ⟨15, 8, 15, 13⟩ ⟨15, 8, 15, 15⟩ ⟨15, 8, 15, 24⟩ ⟨15, 8, 15, 52⟩ ⟨15, 8, 15, 52⟩, keepS "text" ⟨16, 8, 16, 12⟩ ⟨16, 8, 16, 17⟩ ⟨16, 20, 16, 24⟩ ⟨16, 8, 16, 24⟩]
abbrev me_BothSigns : PySem.Expr := (.JoinedStr [(.FormattedValue (.Name "name" ⟨20, 28, 20, 32⟩) (-1) none ⟨20, 27, 20, 33⟩), (.Constant (.str " stands in both signs") 0 ⟨20, 33, 20, 54⟩)] ⟨20, 25, 20, 55⟩)
abbrev ea_BothSigns : Arguments := (args1 "name" ⟨19, 17, 19, 21⟩ ⟨19, 23, 19, 27⟩)
abbrev eb_BothSigns : List Stmt := [supS me_BothSigns ⟨20, 8, 20, 13⟩ ⟨20, 8, 20, 15⟩ ⟨20, 8, 20, 24⟩ ⟨20, 8, 20, 56⟩ ⟨20, 8, 20, 56⟩, keepS "name" ⟨21, 8, 21, 12⟩ ⟨21, 8, 21, 17⟩ ⟨21, 20, 21, 24⟩ ⟨21, 8, 21, 24⟩]
abbrev me_TooMany : PySem.Expr := (.JoinedStr [(.Constant (.str "there may be at most ") 0 ⟨25, 27, 25, 48⟩), (.FormattedValue (.Name "limit" ⟨25, 49, 25, 54⟩) (-1) none ⟨25, 48, 25, 55⟩)] ⟨25, 25, 25, 56⟩)
abbrev ea_TooMany : Arguments := (args1 "limit" ⟨24, 17, 24, 21⟩ ⟨24, 23, 24, 28⟩)
abbrev eb_TooMany : List Stmt := [supS me_TooMany ⟨25, 8, 25, 13⟩ ⟨25, 8, 25, 15⟩ ⟨25, 8, 25, 24⟩ ⟨25, 8, 25, 57⟩ ⟨25, 8, 25, 57⟩, keepS "limit" ⟨26, 8, 26, 12⟩ ⟨26, 8, 26, 18⟩ ⟨26, 21, 26, 26⟩ ⟨26, 8, 26, 26⟩]
abbrev me_NoClause : PySem.Expr := (.JoinedStr [(.Constant (.str "the book has no clause ") 0 ⟨30, 27, 30, 50⟩), (.FormattedValue (.Name "number" ⟨30, 51, 30, 57⟩) (-1) none ⟨30, 50, 30, 58⟩)] ⟨30, 25, 30, 59⟩)
abbrev ea_NoClause : Arguments := (args1 "number" ⟨29, 17, 29, 21⟩ ⟨29, 23, 29, 29⟩)
abbrev eb_NoClause : List Stmt := [supS me_NoClause ⟨30, 8, 30, 13⟩ ⟨30, 8, 30, 15⟩ ⟨30, 8, 30, 24⟩ ⟨30, 8, 30, 60⟩ ⟨30, 8, 30, 60⟩, keepS "number" ⟨31, 8, 31, 12⟩ ⟨31, 8, 31, 19⟩ ⟨31, 22, 31, 28⟩ ⟨31, 8, 31, 28⟩]
abbrev me_BadNumber : PySem.Expr := (.JoinedStr [(.Constant (.str "not a number for a clause here: ") 0 ⟨35, 27, 35, 59⟩), (.FormattedValue (.Name "number" ⟨35, 60, 35, 66⟩) (-1) none ⟨35, 59, 35, 67⟩)] ⟨35, 25, 35, 68⟩)
abbrev ea_BadNumber : Arguments := (args1 "number" ⟨34, 17, 34, 21⟩ ⟨34, 23, 34, 29⟩)
abbrev eb_BadNumber : List Stmt := [supS me_BadNumber ⟨35, 8, 35, 13⟩ ⟨35, 8, 35, 15⟩ ⟨35, 8, 35, 24⟩ ⟨35, 8, 35, 69⟩ ⟨35, 8, 35, 69⟩, keepS "number" ⟨36, 8, 36, 12⟩ ⟨36, 8, 36, 19⟩ ⟨36, 22, 36, 28⟩ ⟨36, 8, 36, 28⟩]
theorem fld_limit : Fld "limit" := ⟨fun _ _ _ _ _ _ _ _ _ _ _ _ _ _ => rfl, rfl, by decide, rfl, rfl, rfl, by decide⟩
theorem fld_name : Fld "name" := ⟨fun _ _ _ _ _ _ _ _ _ _ _ _ _ _ => rfl, rfl, by decide, rfl, rfl, rfl, by decide⟩
theorem fld_number : Fld "number" := ⟨fun _ _ _ _ _ _ _ _ _ _ _ _ _ _ => rfl, rfl, by decide, rfl, rfl, rfl, by decide⟩
theorem fld_text : Fld "text" := ⟨fun _ _ _ _ _ _ _ _ _ _ _ _ _ _ => rfl, rfl, by decide, rfl, rfl, rfl, by decide⟩
structure Txt (P : Program) (K : PySem.W.Frag) (mg : Str → Option Value) where
  C_Ring : Addr
  g_Ring : mg "Ring" = some (.ref C_Ring)
  cl_Ring : Cls K C_Ring
  mi_Ring : PySem.W.makesIn K C_Ring = true
  kc_Ring : PySem.W.keepIn K (.ref C_Ring) = true
  ins_Ring : C8.InsC K C_Ring
  na_Ring_name : NoAttr K C_Ring "name"
  na_Ring_there : NoAttr K C_Ring "there"
  na_Ring_back : NoAttr K C_Ring "back"
  C_Clause : Addr
  g_Clause : mg "Clause" = some (.ref C_Clause)
  cl_Clause : Cls K C_Clause
  mi_Clause : PySem.W.makesIn K C_Clause = true
  kc_Clause : PySem.W.keepIn K (.ref C_Clause) = true
  ins_Clause : C8.InsC K C_Clause
  na_Clause_literals : NoAttr K C_Clause "literals"
  C_Book : Addr
  g_Book : mg "Book" = some (.ref C_Book)
  cl_Book : Cls K C_Book
  mi_Book : PySem.W.makesIn K C_Book = true
  kc_Book : PySem.W.keepIn K (.ref C_Book) = true
  ins_Book : C8.InsC K C_Book
  na_Book__placed : NoAttr K C_Book "_placed"
  na_Book__last : NoAttr K C_Book "_last"
  R_Clause : ClX.CRead K C_Clause (.type "type")
  V_Clause_LIMIT : ∃ u, ClX.CVal K C_Clause (.type "type") "LIMIT" (.int 6) u
  R_Book : ClX.CRead K C_Book (.type "type")
  V_Book_LIMIT : ∃ u, ClX.CVal K C_Book (.type "type") "LIMIT" (.int 24) u
  V_Book_NAMES : ∃ u, ClX.CVal K C_Book (.type "type") "NAMES" (.int 12) u
  V_Book_NUMBERS : ∃ u, ClX.CVal K C_Book (.type "type") "NUMBERS" (.int 999) u
  f_is_name : Addr
  d_is_name : FuncData
  F_is_name : Fun K "is_name" "is_name" s_is_name f_is_name d_is_name
  b_is_name : Binds K d_is_name ["text"] []
  g_is_name : mg "is_name" = some (.ref f_is_name)
  f_is_literal : Addr
  d_is_literal : FuncData
  F_is_literal : Fun K "is_literal" "is_literal" s_is_literal f_is_literal d_is_literal
  b_is_literal : Binds K d_is_literal ["text"] []
  g_is_literal : mg "is_literal" = some (.ref f_is_literal)
  f_check_name : Addr
  d_check_name : FuncData
  F_check_name : Fun K "check_name" "check_name" s_check_name f_check_name d_check_name
  b_check_name : Binds K d_check_name ["text"] []
  g_check_name : mg "check_name" = some (.ref f_check_name)
  f_check_literal : Addr
  d_check_literal : FuncData
  F_check_literal : Fun K "check_literal" "check_literal" s_check_literal f_check_literal d_check_literal
  b_check_literal : Binds K d_check_literal ["text"] []
  g_check_literal : mg "check_literal" = some (.ref f_check_literal)
  f_name_of : Addr
  d_name_of : FuncData
  F_name_of : Fun K "name_of" "name_of" s_name_of f_name_of d_name_of
  b_name_of : Binds K d_name_of ["literal"] []
  g_name_of : mg "name_of" = some (.ref f_name_of)
  f_is_positive : Addr
  d_is_positive : FuncData
  F_is_positive : Fun K "is_positive" "is_positive" s_is_positive f_is_positive d_is_positive
  b_is_positive : Binds K d_is_positive ["literal"] []
  g_is_positive : mg "is_positive" = some (.ref f_is_positive)
  f_negated : Addr
  d_negated : FuncData
  F_negated : Fun K "negated" "negated" s_negated f_negated d_negated
  b_negated : Binds K d_negated ["literal"] []
  g_negated : mg "negated" = some (.ref f_negated)
  f_both_signs : Addr
  d_both_signs : FuncData
  F_both_signs : Fun K "both_signs" "both_signs" s_both_signs f_both_signs d_both_signs
  b_both_signs : Binds K d_both_signs ["names"] []
  g_both_signs : mg "both_signs" = some (.ref f_both_signs)
  f_in_order : Addr
  d_in_order : FuncData
  F_in_order : Fun K "in_order" "in_order" s_in_order f_in_order d_in_order
  b_in_order : Binds K d_in_order ["literals"] []
  g_in_order : mg "in_order" = some (.ref f_in_order)
  f_check_signs : Addr
  d_check_signs : FuncData
  F_check_signs : Fun K "check_signs" "check_signs" s_check_signs f_check_signs d_check_signs
  b_check_signs : Binds K d_check_signs ["ordered"] []
  g_check_signs : mg "check_signs" = some (.ref f_check_signs)
  f_needs : Addr
  d_needs : FuncData
  F_needs : Fun K "needs" "needs" s_needs f_needs d_needs
  b_needs : Binds K d_needs ["book", "literal"] []
  g_needs : mg "needs" = some (.ref f_needs)
  f_all_needs : Addr
  d_all_needs : FuncData
  F_all_needs : Fun K "all_needs" "all_needs" s_all_needs f_all_needs d_all_needs
  b_all_needs : Binds K d_all_needs ["book"] []
  g_all_needs : mg "all_needs" = some (.ref f_all_needs)
  f__arrivals : Addr
  d__arrivals : FuncData
  F__arrivals : Fun K "_arrivals" "_arrivals" s__arrivals f__arrivals d__arrivals
  b__arrivals : Binds K d__arrivals ["table", "start"] []
  g__arrivals : mg "_arrivals" = some (.ref f__arrivals)
  f_all_reached : Addr
  d_all_reached : FuncData
  F_all_reached : Fun K "all_reached" "all_reached" s_all_reached f_all_reached d_all_reached
  b_all_reached : Binds K d_all_reached ["book"] []
  g_all_reached : mg "all_reached" = some (.ref f_all_reached)
  f_chain : Addr
  d_chain : FuncData
  F_chain : Fun K "chain" "chain" s_chain f_chain d_chain
  b_chain : Binds K d_chain ["book", "start", "goal"] []
  g_chain : mg "chain" = some (.ref f_chain)
  f_is_chain : Addr
  d_is_chain : FuncData
  F_is_chain : Fun K "is_chain" "is_chain" s_is_chain f_is_chain d_is_chain
  b_is_chain : Binds K d_is_chain ["book", "start", "goal", "links"] []
  g_is_chain : mg "is_chain" = some (.ref f_is_chain)
  f_Ring_init : Addr
  d_Ring_init : FuncData
  F_Ring_init : Fun K "__init__" "Ring.__init__" s_Ring_init f_Ring_init d_Ring_init
  m_Ring_init : PySem.W.findIn K (.ref C_Ring) "__init__" = some (some (.ref f_Ring_init))
  i_Ring_init : PySem.W.isFn K (.ref f_Ring_init) = true
  b_Ring_init : Binds K d_Ring_init ["self", "name", "there", "back"] []
  f_Ring_numbers : Addr
  d_Ring_numbers : FuncData
  F_Ring_numbers : Fun K "numbers" "Ring.numbers" s_Ring_numbers f_Ring_numbers d_Ring_numbers
  p_Ring_numbers : Addr
  P_Ring_numbers : PropOf K C_Ring "numbers" p_Ring_numbers f_Ring_numbers
  b_Ring_numbers : Binds K d_Ring_numbers ["self"] []
  f_Ring_bars : Addr
  d_Ring_bars : FuncData
  F_Ring_bars : Fun K "bars" "Ring.bars" s_Ring_bars f_Ring_bars d_Ring_bars
  m_Ring_bars : PySem.W.findIn K (.ref C_Ring) "bars" = some (some (.ref f_Ring_bars))
  i_Ring_bars : PySem.W.isFn K (.ref f_Ring_bars) = true
  b_Ring_bars : Binds K d_Ring_bars ["self", "book"] []
  f_ring_names : Addr
  d_ring_names : FuncData
  F_ring_names : Fun K "ring_names" "ring_names" s_ring_names f_ring_names d_ring_names
  b_ring_names : Binds K d_ring_names ["book"] []
  g_ring_names : mg "ring_names" = some (.ref f_ring_names)
  f_ring_at : Addr
  d_ring_at : FuncData
  F_ring_at : Fun K "ring_at" "ring_at" s_ring_at f_ring_at d_ring_at
  b_ring_at : Binds K d_ring_at ["book", "name"] []
  g_ring_at : mg "ring_at" = some (.ref f_ring_at)
  f_first_ring : Addr
  d_first_ring : FuncData
  F_first_ring : Fun K "first_ring" "first_ring" s_first_ring f_first_ring d_first_ring
  b_first_ring : Binds K d_first_ring ["book"] []
  g_first_ring : mg "first_ring" = some (.ref f_first_ring)
  f_apart_rings : Addr
  d_apart_rings : FuncData
  F_apart_rings : Fun K "apart_rings" "apart_rings" s_apart_rings f_apart_rings d_apart_rings
  b_apart_rings : Binds K d_apart_rings ["book"] []
  g_apart_rings : mg "apart_rings" = some (.ref f_apart_rings)
  f_Clause_init : Addr
  d_Clause_init : FuncData
  F_Clause_init : Fun K "__init__" "Clause.__init__" s_Clause_init f_Clause_init d_Clause_init
  m_Clause_init : PySem.W.findIn K (.ref C_Clause) "__init__" = some (some (.ref f_Clause_init))
  i_Clause_init : PySem.W.isFn K (.ref f_Clause_init) = true
  f_Clause_names : Addr
  d_Clause_names : FuncData
  F_Clause_names : Fun K "names" "Clause.names" s_Clause_names f_Clause_names d_Clause_names
  p_Clause_names : Addr
  P_Clause_names : PropOf K C_Clause "names" p_Clause_names f_Clause_names
  b_Clause_names : Binds K d_Clause_names ["self"] []
  f_Clause_iter : Addr
  d_Clause_iter : FuncData
  F_Clause_iter : Fun K "__iter__" "Clause.__iter__" s_Clause_iter f_Clause_iter d_Clause_iter
  m_Clause_iter : PySem.W.findIn K (.ref C_Clause) "__iter__" = some (some (.ref f_Clause_iter))
  i_Clause_iter : PySem.W.isFn K (.ref f_Clause_iter) = true
  b_Clause_iter : Binds K d_Clause_iter ["self"] []
  f_Clause_contains : Addr
  d_Clause_contains : FuncData
  F_Clause_contains : Fun K "__contains__" "Clause.__contains__" s_Clause_contains f_Clause_contains d_Clause_contains
  m_Clause_contains : PySem.W.findIn K (.ref C_Clause) "__contains__" = some (some (.ref f_Clause_contains))
  i_Clause_contains : PySem.W.isFn K (.ref f_Clause_contains) = true
  b_Clause_contains : Binds K d_Clause_contains ["self", "x"] []
  f_turned_literal : Addr
  d_turned_literal : FuncData
  F_turned_literal : Fun K "turned_literal" "turned_literal" s_turned_literal f_turned_literal d_turned_literal
  b_turned_literal : Binds K d_turned_literal ["turning", "literal"] []
  g_turned_literal : mg "turned_literal" = some (.ref f_turned_literal)
  f_turned_clause : Addr
  d_turned_clause : FuncData
  F_turned_clause : Fun K "turned_clause" "turned_clause" s_turned_clause f_turned_clause d_turned_clause
  b_turned_clause : Binds K d_turned_clause ["turning", "clause"] []
  g_turned_clause : mg "turned_clause" = some (.ref f_turned_clause)
  f__names_in : Addr
  d__names_in : FuncData
  F__names_in : Fun K "_names_in" "_names_in" s__names_in f__names_in d__names_in
  b__names_in : Binds K d__names_in ["clauses"] []
  g__names_in : mg "_names_in" = some (.ref f__names_in)
  f__check_names : Addr
  d__check_names : FuncData
  F__check_names : Fun K "_check_names" "_check_names" s__check_names f__check_names d__check_names
  b__check_names : Binds K d__check_names ["clauses"] []
  g__check_names : mg "_check_names" = some (.ref f__check_names)
  f__check_room : Addr
  d__check_room : FuncData
  F__check_room : Fun K "_check_room" "_check_room" s__check_room f__check_room d__check_room
  b__check_room : Binds K d__check_room ["placed", "clause"] []
  g__check_room : mg "_check_room" = some (.ref f__check_room)
  f__placed_from_one : Addr
  d__placed_from_one : FuncData
  F__placed_from_one : Fun K "_placed_from_one" "_placed_from_one" s__placed_from_one f__placed_from_one d__placed_from_one
  b__placed_from_one : Binds K d__placed_from_one ["clauses"] []
  g__placed_from_one : mg "_placed_from_one" = some (.ref f__placed_from_one)
  f__all_turned : Addr
  d__all_turned : FuncData
  F__all_turned : Fun K "_all_turned" "_all_turned" s__all_turned f__all_turned d__all_turned
  b__all_turned : Binds K d__all_turned ["placed", "turning"] []
  g__all_turned : mg "_all_turned" = some (.ref f__all_turned)
  f_book_of : Addr
  d_book_of : FuncData
  F_book_of : Fun K "book_of" "book_of" s_book_of f_book_of d_book_of
  b_book_of : Binds K d_book_of ["placed", "last"] []
  g_book_of : mg "book_of" = some (.ref f_book_of)
  f_Book_init : Addr
  d_Book_init : FuncData
  F_Book_init : Fun K "__init__" "Book.__init__" s_Book_init f_Book_init d_Book_init
  m_Book_init : PySem.W.findIn K (.ref C_Book) "__init__" = some (some (.ref f_Book_init))
  i_Book_init : PySem.W.isFn K (.ref f_Book_init) = true
  f_Book_numbered : Addr
  d_Book_numbered : FuncData
  F_Book_numbered : Fun K "numbered" "Book.numbered" s_Book_numbered f_Book_numbered d_Book_numbered
  p_Book_numbered : Addr
  M_Book_numbered : ClX.CMet K C_Book (.type "type") "numbered" p_Book_numbered f_Book_numbered
  b_Book_numbered : Binds K d_Book_numbered ["cls", "pairs"] []
  f_Book_names : Addr
  d_Book_names : FuncData
  F_Book_names : Fun K "names" "Book.names" s_Book_names f_Book_names d_Book_names
  p_Book_names : Addr
  P_Book_names : PropOf K C_Book "names" p_Book_names f_Book_names
  b_Book_names : Binds K d_Book_names ["self"] []
  f_Book_next_number : Addr
  d_Book_next_number : FuncData
  F_Book_next_number : Fun K "next_number" "Book.next_number" s_Book_next_number f_Book_next_number d_Book_next_number
  p_Book_next_number : Addr
  P_Book_next_number : PropOf K C_Book "next_number" p_Book_next_number f_Book_next_number
  b_Book_next_number : Binds K d_Book_next_number ["self"] []
  f_Book_put : Addr
  d_Book_put : FuncData
  F_Book_put : Fun K "put" "Book.put" s_Book_put f_Book_put d_Book_put
  m_Book_put : PySem.W.findIn K (.ref C_Book) "put" = some (some (.ref f_Book_put))
  i_Book_put : PySem.W.isFn K (.ref f_Book_put) = true
  b_Book_put : Binds K d_Book_put ["self", "clause"] []
  f_Book_drop : Addr
  d_Book_drop : FuncData
  F_Book_drop : Fun K "drop" "Book.drop" s_Book_drop f_Book_drop d_Book_drop
  m_Book_drop : PySem.W.findIn K (.ref C_Book) "drop" = some (some (.ref f_Book_drop))
  i_Book_drop : PySem.W.isFn K (.ref f_Book_drop) = true
  b_Book_drop : Binds K d_Book_drop ["self", "number"] []
  f_Book_copy : Addr
  d_Book_copy : FuncData
  F_Book_copy : Fun K "copy" "Book.copy" s_Book_copy f_Book_copy d_Book_copy
  m_Book_copy : PySem.W.findIn K (.ref C_Book) "copy" = some (some (.ref f_Book_copy))
  i_Book_copy : PySem.W.isFn K (.ref f_Book_copy) = true
  b_Book_copy : Binds K d_Book_copy ["self"] []
  f_Book_iter : Addr
  d_Book_iter : FuncData
  F_Book_iter : Fun K "__iter__" "Book.__iter__" s_Book_iter f_Book_iter d_Book_iter
  m_Book_iter : PySem.W.findIn K (.ref C_Book) "__iter__" = some (some (.ref f_Book_iter))
  i_Book_iter : PySem.W.isFn K (.ref f_Book_iter) = true
  b_Book_iter : Binds K d_Book_iter ["self"] []
  f_Book_len : Addr
  d_Book_len : FuncData
  F_Book_len : Fun K "__len__" "Book.__len__" s_Book_len f_Book_len d_Book_len
  m_Book_len : PySem.W.findIn K (.ref C_Book) "__len__" = some (some (.ref f_Book_len))
  i_Book_len : PySem.W.isFn K (.ref f_Book_len) = true
  b_Book_len : Binds K d_Book_len ["self"] []
  f_Book_contains : Addr
  d_Book_contains : FuncData
  F_Book_contains : Fun K "__contains__" "Book.__contains__" s_Book_contains f_Book_contains d_Book_contains
  m_Book_contains : PySem.W.findIn K (.ref C_Book) "__contains__" = some (some (.ref f_Book_contains))
  i_Book_contains : PySem.W.isFn K (.ref f_Book_contains) = true
  b_Book_contains : Binds K d_Book_contains ["self", "x"] []
  f_Book_getitem : Addr
  d_Book_getitem : FuncData
  F_Book_getitem : Fun K "__getitem__" "Book.__getitem__" s_Book_getitem f_Book_getitem d_Book_getitem
  m_Book_getitem : PySem.W.findIn K (.ref C_Book) "__getitem__" = some (some (.ref f_Book_getitem))
  i_Book_getitem : PySem.W.isFn K (.ref f_Book_getitem) = true
  b_Book_getitem : Binds K d_Book_getitem ["self", "at"] []
  f_Book_setitem : Addr
  d_Book_setitem : FuncData
  F_Book_setitem : Fun K "__setitem__" "Book.__setitem__" s_Book_setitem f_Book_setitem d_Book_setitem
  m_Book_setitem : PySem.W.findIn K (.ref C_Book) "__setitem__" = some (some (.ref f_Book_setitem))
  i_Book_setitem : PySem.W.isFn K (.ref f_Book_setitem) = true
  b_Book_setitem : Binds K d_Book_setitem ["self", "at", "worth"] []
  f__law_source : Addr
  d__law_source : FuncData
  F__law_source : Fun K "_law_source" "_law_source" s__law_source f__law_source d__law_source
  b__law_source : Binds K d__law_source ["_law_script"] []
  g__law_source : mg "_law_source" = some (.ref f__law_source)
  f__law_take : Addr
  d__law_take : FuncData
  F__law_take : Fun K "_law_take" "_law_take" s__law_take f__law_take d__law_take
  b__law_take : Binds K d__law_take ["_law_source_here", "_law_many"] []
  g__law_take : mg "_law_take" = some (.ref f__law_take)
  f__law_word : Addr
  d__law_word : FuncData
  F__law_word : Fun K "_law_word" "_law_word" s__law_word f__law_word d__law_word
  b__law_word : Binds K d__law_word ["_law_source_here", "_law_size"] []
  g__law_word : mg "_law_word" = some (.ref f__law_word)
  f__law_names : Addr
  d__law_names : FuncData
  F__law_names : Fun K "_law_names" "_law_names" s__law_names f__law_names d__law_names
  b__law_names : Binds K d__law_names ["_law_source_here", "_law_many"] []
  g__law_names : mg "_law_names" = some (.ref f__law_names)
  f__law_flip : Addr
  d__law_flip : FuncData
  F__law_flip : Fun K "_law_flip" "_law_flip" s__law_flip f__law_flip d__law_flip
  b__law_flip : Binds K d__law_flip ["_law_literal"] []
  g__law_flip : mg "_law_flip" = some (.ref f__law_flip)
  f__law_name : Addr
  d__law_name : FuncData
  F__law_name : Fun K "_law_name" "_law_name" s__law_name f__law_name d__law_name
  b__law_name : Binds K d__law_name ["_law_literal"] []
  g__law_name : mg "_law_name" = some (.ref f__law_name)
  f__law_sorted : Addr
  d__law_sorted : FuncData
  F__law_sorted : Fun K "_law_sorted" "_law_sorted" s__law_sorted f__law_sorted d__law_sorted
  b__law_sorted : Binds K d__law_sorted ["_law_names_here"] []
  g__law_sorted : mg "_law_sorted" = some (.ref f__law_sorted)
  f__law_same : Addr
  d__law_same : FuncData
  F__law_same : Fun K "_law_same" "_law_same" s__law_same f__law_same d__law_same
  b__law_same : Binds K d__law_same ["_law_one", "_law_other"] []
  g__law_same : mg "_law_same" = some (.ref f__law_same)
  f__law_row : Addr
  d__law_row : FuncData
  F__law_row : Fun K "_law_row" "_law_row" s__law_row f__law_row d__law_row
  b__law_row : Binds K d__law_row ["_law_source_here", "_law_names_here", "_law_most"] []
  g__law_row : mg "_law_row" = some (.ref f__law_row)
  f__law_knot : Addr
  d__law_knot : FuncData
  F__law_knot : Fun K "_law_knot" "_law_knot" s__law_knot f__law_knot d__law_knot
  b__law_knot : Binds K d__law_knot ["_law_one", "_law_other", "_law_source_here"] []
  g__law_knot : mg "_law_knot" = some (.ref f__law_knot)
  f__law_clause : Addr
  d__law_clause : FuncData
  F__law_clause : Fun K "_law_clause" "_law_clause" s__law_clause f__law_clause d__law_clause
  b__law_clause : Binds K d__law_clause ["_law_row_here"] []
  g__law_clause : mg "_law_clause" = some (.ref f__law_clause)
  f__law_numbers : Addr
  d__law_numbers : FuncData
  F__law_numbers : Fun K "_law_numbers" "_law_numbers" s__law_numbers f__law_numbers d__law_numbers
  b__law_numbers : Binds K d__law_numbers ["_law_source_here", "_law_many"] []
  g__law_numbers : mg "_law_numbers" = some (.ref f__law_numbers)
  f__law_book : Addr
  d__law_book : FuncData
  F__law_book : Fun K "_law_book" "_law_book" s__law_book f__law_book d__law_book
  b__law_book : Binds K d__law_book ["_law_numbers_here", "_law_rows"] []
  g__law_book : mg "_law_book" = some (.ref f__law_book)
  f__law_names_in : Addr
  d__law_names_in : FuncData
  F__law_names_in : Fun K "_law_names_in" "_law_names_in" s__law_names_in f__law_names_in d__law_names_in
  b__law_names_in : Binds K d__law_names_in ["_law_rows"] []
  g__law_names_in : mg "_law_names_in" = some (.ref f__law_names_in)
  f__law_reach : Addr
  d__law_reach : FuncData
  F__law_reach : Fun K "_law_reach" "_law_reach" s__law_reach f__law_reach d__law_reach
  b__law_reach : Binds K d__law_reach ["_law_rows", "_law_literal"] []
  g__law_reach : mg "_law_reach" = some (.ref f__law_reach)
  f__law_rings : Addr
  d__law_rings : FuncData
  F__law_rings : Fun K "_law_rings" "_law_rings" s__law_rings f__law_rings d__law_rings
  b__law_rings : Binds K d__law_rings ["_law_rows"] []
  g__law_rings : mg "_law_rings" = some (.ref f__law_rings)
  f__law_is_link : Addr
  d__law_is_link : FuncData
  F__law_is_link : Fun K "_law_is_link" "_law_is_link" s__law_is_link f__law_is_link d__law_is_link
  b__law_is_link : Binds K d__law_is_link ["_law_numbers_here", "_law_rows", "_law_link"] []
  g__law_is_link : mg "_law_is_link" = some (.ref f__law_is_link)
  f__law_is_chain : Addr
  d__law_is_chain : FuncData
  F__law_is_chain : Fun K "_law_is_chain" "_law_is_chain" s__law_is_chain f__law_is_chain d__law_is_chain
  b__law_is_chain : Binds K d__law_is_chain ["_law_numbers_here", "_law_rows", "_law_start", "_law_goal", "_law_links"] []
  g__law_is_chain : mg "_law_is_chain" = some (.ref f__law_is_chain)
  f__law_loop : Addr
  d__law_loop : FuncData
  F__law_loop : Fun K "_law_loop" "_law_loop" s__law_loop f__law_loop d__law_loop
  b__law_loop : Binds K d__law_loop ["_law_source_here", "_law_names_here"] []
  g__law_loop : mg "_law_loop" = some (.ref f__law_loop)
  f__law_numbers_of : Addr
  d__law_numbers_of : FuncData
  F__law_numbers_of : Fun K "_law_numbers_of" "_law_numbers_of" s__law_numbers_of f__law_numbers_of d__law_numbers_of
  b__law_numbers_of : Binds K d__law_numbers_of ["_law_links"] []
  g__law_numbers_of : mg "_law_numbers_of" = some (.ref f__law_numbers_of)
  f__law_ring_holds : Addr
  d__law_ring_holds : FuncData
  F__law_ring_holds : Fun K "_law_ring_holds" "_law_ring_holds" s__law_ring_holds f__law_ring_holds d__law_ring_holds
  b__law_ring_holds : Binds K d__law_ring_holds ["_law_numbers_here", "_law_rows", "_law_name_here", "_law_there", "_law_back"] []
  g__law_ring_holds : mg "_law_ring_holds" = some (.ref f__law_ring_holds)
  f__law_knots : Addr
  d__law_knots : FuncData
  F__law_knots : Fun K "_law_knots" "_law_knots" s__law_knots f__law_knots d__law_knots
  b__law_knots : Binds K d__law_knots ["_law_source_here", "_law_names_here"] []
  g__law_knots : mg "_law_knots" = some (.ref f__law_knots)
  f__law_world : Addr
  d__law_world : FuncData
  F__law_world : Fun K "_law_world" "_law_world" s__law_world f__law_world d__law_world
  b__law_world : Binds K d__law_world ["_law_source_here", "_law_names_here"] []
  g__law_world : mg "_law_world" = some (.ref f__law_world)
  f__law_ring : Addr
  d__law_ring : FuncData
  F__law_ring : Fun K "_law_ring" "_law_ring" s__law_ring f__law_ring d__law_ring
  b__law_ring : Binds K d__law_ring ["_law_book_here", "_law_numbers_here", "_law_rows", "_law_ring_here"] []
  g__law_ring : mg "_law_ring" = some (.ref f__law_ring)
  f__law_apart : Addr
  d__law_apart : FuncData
  F__law_apart : Fun K "_law_apart" "_law_apart" s__law_apart f__law_apart d__law_apart
  b__law_apart : Binds K d__law_apart ["_law_book_here", "_law_numbers_here", "_law_rows"] []
  g__law_apart : mg "_law_apart" = some (.ref f__law_apart)
  f_law : Addr
  d_law : FuncData
  F_law : Fun K "law" "law" s_law f_law d_law
  b_law : Binds K d_law ["_law_script"] []
  g_law : mg "law" = some (.ref f_law)
  om_Book : mro2 K C_Book = true
  t_LETTERS : Tok
  v_LETTERS : mg "LETTERS" = some (.str "abcdefghijklmnopqrstuvwxyz" t_LETTERS)
  t_LETTERS_AND_DIGITS : Tok
  v_LETTERS_AND_DIGITS : mg "LETTERS_AND_DIGITS" = some (.str "abcdefghijklmnopqrstuvwxyz0123456789" t_LETTERS_AND_DIGITS)
  t_LONGEST_NAME : Tok
  v_LONGEST_NAME : mg "LONGEST_NAME" = some (.int 8 t_LONGEST_NAME)
  C_HornError : Addr
  g_HornError : mg "HornError" = some (.ref C_HornError)
  C_BadName : Addr
  i_BadName : Addr
  E_BadName : Cls1 P K mg "BadName" C_BadName i_BadName ea_BadName eb_BadName (scope1 "text")
  o_BadName : PySem.W.findIn K (.ref C_BadName) "text" = some none
  x_BadName : ExcC K C_BadName
  C_BadLiteral : Addr
  i_BadLiteral : Addr
  E_BadLiteral : Cls1 P K mg "BadLiteral" C_BadLiteral i_BadLiteral ea_BadLiteral eb_BadLiteral (scope1 "text")
  o_BadLiteral : PySem.W.findIn K (.ref C_BadLiteral) "text" = some none
  x_BadLiteral : ExcC K C_BadLiteral
  C_BothSigns : Addr
  i_BothSigns : Addr
  E_BothSigns : Cls1 P K mg "BothSigns" C_BothSigns i_BothSigns ea_BothSigns eb_BothSigns (scope1 "name")
  o_BothSigns : PySem.W.findIn K (.ref C_BothSigns) "name" = some none
  x_BothSigns : ExcC K C_BothSigns
  C_TooMany : Addr
  i_TooMany : Addr
  E_TooMany : Cls1 P K mg "TooMany" C_TooMany i_TooMany ea_TooMany eb_TooMany (scope1 "limit")
  o_TooMany : PySem.W.findIn K (.ref C_TooMany) "limit" = some none
  x_TooMany : ExcC K C_TooMany
  C_NoClause : Addr
  i_NoClause : Addr
  E_NoClause : Cls1 P K mg "NoClause" C_NoClause i_NoClause ea_NoClause eb_NoClause (scope1 "number")
  o_NoClause : PySem.W.findIn K (.ref C_NoClause) "number" = some none
  x_NoClause : ExcC K C_NoClause
  C_BadNumber : Addr
  i_BadNumber : Addr
  E_BadNumber : Cls1 P K mg "BadNumber" C_BadNumber i_BadNumber ea_BadNumber eb_BadNumber (scope1 "number")
  o_BadNumber : PySem.W.findIn K (.ref C_BadNumber) "number" = some none
  x_BadNumber : ExcC K C_BadNumber
  n_NotImplemented : mg "NotImplemented" = none
  n_ValueError : mg "ValueError" = none
  n_all : mg "all" = none
  n_any : mg "any" = none
  n_bool : mg "bool" = none
  n_classmethod : mg "classmethod" = none
  n_enumerate : mg "enumerate" = none
  n_int : mg "int" = none
  n_isinstance : mg "isinstance" = none
  n_iter : mg "iter" = none
  n_len : mg "len" = none
  n_list : mg "list" = none
  n_property : mg "property" = none
  n_range : mg "range" = none
  n_set : mg "set" = none
  n_sorted : mg "sorted" = none
  n_str : mg "str" = none
  n_super : mg "super" = none
  n_tuple : mg "tuple" = none
/-- the law gets a list of at most 63 ints and hands back True -/
def spLaw (K : PySem.W.Frag) : Sp := fun vs H Q _ => ∃ (a : Addr) (ns : List Int), vs = [.ref a] ∧ SqL K H a (ns.map V.int) ∧ ns.length ≤ 63 ∧ ∀ H', Q (.bl true) H'
section
variable {P : Program} {w : World} {K : PySem.W.Frag} {mg : Str → Option Value} {base : Heap}
/-! ### the source of drawn numbers -/
/-- what stands at b and is not a stands as before -/
def But (a : Addr) (H H' : Hp) : Prop := ∀ b o, b ≠ a → H b = some o → H' b = some o
theorem But.refl {a : Addr} {H : Hp} : But a H H := fun _ _ _ h => h
theorem But.trans {a : Addr} {H H1 H2 : Hp} (x : But a H H1) (y : But a H1 H2) : But a H H2 := fun b o n h => y b o n (x b o n h)
theorem But.upd {a : Addr} {H H1 : Hp} {o : HO} (x : But a H H1) : But a H (upd H1 a o) := fun b u n h => by
  rw [upd_ne n]
  exact x b u n h
theorem But.new {a p : Addr} {H H1 : Hp} {o u : HO} (x : But a H H1) (ha : H1 a = some u) (hp : H1 p = none) : But a H (L2.upd H1 p o) := fun b v n h => by
  rw [upd_ne (ne_of_none (x b v n h) hp)]
  exact x b v n h
theorem But.of {a : Addr} {H H1 : Hp} (x : Same H H1) : But a H H1 := fun b o _ h => x b o h
/-- the script's list at l beside four ints -/
def five (l : Addr) (i x k m : Int) : List V := [.ref l, .int i, .int x, .int k, .int m]
structure SrcL (H : Hp) (a l : Addr) (ns : List Int) : Prop where
  at_ : ∃ i x k m : Int, 0 ≤ i ∧ H a = some (.lst (five l i x k m))
  li : H l = some (.lst (ns.map V.int))
theorem src_ne {H : Hp} {a l : Addr} {ns : List Int} (S : SrcL H a l ns) : l ≠ a := fun e => by
  obtain ⟨i, x, k, m, _, h⟩ := S.at_
  have h2 := S.li
  rw [e, h] at h2
  have h3 := HO.lst.inj (Option.some.inj h2)
  cases ns with
  | nil => exact absurd h3 (by simp [five])
  | cons y r =>
    have h4 := (List.cons.inj h3).1
    cases h4
/-- a source at a -/
def Src (H : Hp) (a : Addr) : Prop := ∃ (l : Addr) (ns : List Int), SrcL H a l ns
theorem Src.keep {H H' : Hp} {a : Addr} (S : Src H a) (k : Same H H') : Src H' a := by
  obtain ⟨l, ns, ⟨i, x, j, m, h0, h⟩, hl⟩ := S
  exact ⟨l, ns, ⟨i, x, j, m, h0, k _ _ h⟩, k _ _ hl⟩
theorem Src.new {H : Hp} {a p : Addr} {o : HO} (S : Src H a) (hp : H p = none) : Src (upd H p o) a := S.keep fun b u h => by
  rw [upd_ne (ne_of_none h hp)]
  exact h
theorem Src.some {H : Hp} {a : Addr} (S : Src H a) : ∃ o, H a = Option.some o := by
  obtain ⟨l, ns, ⟨i, x, k, m, h0, h⟩, hl⟩ := S
  exact ⟨_, h⟩
theorem fmod_lo (x : Int) {m : Int} (h : 1 ≤ m) : 0 ≤ x.fmod m := Int.fmod_nonneg_of_pos x (by omega)
theorem fmod_hi (x : Int) {m : Int} (h : 1 ≤ m) : x.fmod m < m := Int.fmod_lt_of_pos x (by omega)
/-- _law_take(source, many), the script's list named -/
def spTakeL : Sp := fun vs H Q _ => ∃ (a : Addr) (many : Int) (l : Addr) (ns : List Int), vs = [.ref a, .int many] ∧ SrcL H a l ns ∧ 1 ≤ many ∧ many < 2 ^ 64 ∧ ∀ H' r, 0 ≤ r → r < many → SrcL H' a l ns → But a H H' → Q (.int r) H'
theorem okL__law_take (T : Txt P K mg) : FnOk P w K mg base CX0 1 T.f__law_take T.d__law_take ["_law_source_here", "_law_many"] spTakeL := by
  refine T.F__law_take.ok sc__law_take (fun vs H Q E h => ?_) (fun cdv A outer s H vs Q E hr h => ?_)
  · obtain ⟨a, many, l, ns, rfl, _⟩ := h
    rfl
  · obtain ⟨a, many, l, ns, rfl, S, h1, h64, q⟩ := h
    have nla := src_ne S
    obtain ⟨⟨i, x, k, m, hi0, h⟩, hl⟩ := S
    refine ⟨_, (Evl.pss_cut (ps_if (pt_cmpR op_eq (pe_ix ix_list (pv 0) pe_int (fun _ _ => rfl)) pe_int (nomark _)) (pss_cons (ps_if (pt_cmpR op_ge (pe_ix ix_list (pv 0) pe_int (fun _ _ => rfl)) (pe_callB call_len_seq (by rfl) T.n_len PySem.boot_len (pa_cons (pe_ix ix_list (pv 0) pe_int (fun _ _ => rfl)) pa_nil)) (nomark _)) (pss_one (ps_ret pe_int)) pss_nil)
      (pss_cons (ps_set (i := 3) sc__law_take.nd rfl (.inl rfl) (pe_callTy call_int1 (by rfl) T.n_int (by decide +kernel) (pa_cons (pe_ix ix_list (pe_ix ix_list (pv 0) pe_int (fun _ _ => rfl)) (pe_ix ix_list (pv 0) pe_int (fun _ _ => rfl)) (fun _ _ => rfl)) pa_nil)))
      (pss_cons (ps_asg (pe_op op_add (pe_ix ix_list (pv 0) pe_int (fun _ _ => rfl)) pe_int) (pg_sub (pv 0) pe_int set_list))
      (pss_cons (ps_asg (pv 3) (pg_sub (pv 0) pe_int set_list))
      (pss_cons (ps_asg pe_int (pg_sub (pv 0) pe_int set_list))
      (pss_cons (ps_asg pe_int (pg_sub (pv 0) pe_int set_list))
      (pss_one (ps_if (pt_cmpR op_ge (pv 3) (pe_op op_pow pe_int pe_int) (nomark _)) (pss_cons (ps_asg pe_int (pg_sub (pv 0) pe_int set_list))
      (pss_one (ps_asg pe_int (pg_sub (pv 0) pe_int set_list)))) pss_nil)))))))) pss_nil)
      (pss_cons (ps_asg (pe_op op_sub (pe_ix ix_list (pv 0) pe_int (fun _ _ => rfl)) pe_int) (pg_sub (pv 0) pe_int set_list))
      (pss_cons (ps_if (pt_cmpR op_eq (pe_ix ix_list (pv 0) pe_int (fun _ _ => rfl)) pe_int (nomark _)) (pss_cons (ps_set (i := 4) sc__law_take.nd rfl (.inl rfl) (pe_op op_modN (pe_callTy call_int1 (by rfl) T.n_int (by decide +kernel) (pa_cons (pe_ix ix_list (pv 0) pe_int (fun _ _ => rfl)) pa_nil)) (pv 1)))
      (pss_cons (ps_asg (pe_op op_fdivW (pe_ix ix_list (pv 0) pe_int (fun _ _ => rfl)) (pv 1)) (pg_sub (pv 0) pe_int set_list))
      (pss_cons (ps_if (pt_cmpR op_eq (pe_ix ix_list (pv 0) pe_int (fun _ _ => rfl)) pe_int (nomark _)) (pss_one (ps_asg pe_int (pg_sub (pv 0) pe_int set_list))) pss_nil)
      (pss_one (ps_ret (pv 4)))))) pss_nil)
      (pss_cons (ps_set (i := 2) sc__law_take.nd rfl (.inl rfl) (pe_op op_modN (pe_callTy call_int1 (by rfl) T.n_int (by decide +kernel) (pa_cons (pe_op op_add (pe_op op_add (pe_op op_mul (pe_ix ix_list (pv 0) pe_int (fun _ _ => rfl)) pe_int) (pe_op op_mul (pe_ix ix_list (pv 0) pe_int (fun _ _ => rfl)) pe_int)) pe_int) pa_nil)) pe_int))
      (pss_cons (ps_set (i := 2) sc__law_take.nd rfl (.inl rfl) (pe_op op_modN (pe_callTy call_int1 (by rfl) T.n_int (by decide +kernel) (pa_cons (pe_op op_add (pe_op op_add (pe_op op_mul (pv 2) pe_int) (pe_op op_mul (pe_ix ix_list (pv 0) pe_int (fun _ _ => rfl)) pe_int)) pe_int) pa_nil)) pe_int))
      (pss_one (ps_ret (pe_op op_modN (pe_callTy call_int1 (by rfl) T.n_int (by decide +kernel) (pa_cons (pv 2) pa_nil)) (pv 1))))))))), ?_⟩
    refine ⟨fun σ' H' => ∃ (cv : Option V) (i x k m : Int), σ' = [some (.ref a), some (.int many), none, cv, none] ∧ 0 ≤ i ∧ H' a = some (.lst (five l i x k m)) ∧ H' l = some (.lst (ns.map V.int)) ∧ But a H H', ?_, ?_⟩
    · refine ⟨.ref a, rfl, a, _, 3, _, rfl, rfl, SqL.of h, atI_nat (j := 3) rfl, rfl, _, rfl, ite2 (fun e => ?_) (fun e => ?_)⟩
      · refine ⟨.ref a, rfl, a, _, 1, _, rfl, rfl, SqL.of h, atI_nat (j := 1) rfl, .ref a, rfl, a, _, 0, _, rfl, rfl, SqL.of h, atI_nat (j := 0) rfl, l, _, rfl, .inl (SqL.of hl), _, _, rfl, rfl, _, rfl, ite2 (fun e1 => ?_) (fun e1 => ?_)⟩
        · exact q H 0 (by omega) (by omega) ⟨⟨i, x, k, m, hi0, h⟩, hl⟩ But.refl
        · have hin : i.toNat < ns.length := by
            have z : ¬ ((ns.map V.int).length : Int) ≤ i := fun z => e1 (decide_eq_true z)
            rw [List.length_map] at z
            omega
          have hg : (ns.map V.int)[i.toNat]? = some (.int ns[i.toNat]) := by
            rw [List.getElem?_map, List.getElem?_eq_getElem hin]
            rfl
          refine ⟨.ref a, rfl, a, _, 0, _, rfl, rfl, SqL.of h, atI_nat (j := 0) rfl, .ref a, rfl, a, _, 1, _, rfl, rfl, SqL.of h, atI_nat (j := 1) rfl, l, _, i, _, rfl, rfl, SqL.of hl, at_of (by omega) hg, .inl ⟨_, rfl, ?_⟩⟩
          refine ⟨.ref a, rfl, a, _, 1, _, rfl, rfl, SqL.of h, atI_nat (j := 1) rfl, _, _, rfl, rfl, .ref a, rfl, a, _, 1, 1, rfl, rfl, h, rfl, ?_⟩
          refine ⟨_, rfl, .ref a, rfl, a, _, 2, 2, rfl, rfl, upd_same, rfl, ?_⟩
          refine ⟨.ref a, rfl, a, _, 3, 3, rfl, rfl, upd_same, rfl, ?_⟩
          refine ⟨.ref a, rfl, a, _, 4, 4, rfl, rfl, upd_same, rfl, ?_⟩
          refine ⟨_, rfl, _, _, rfl, rfl, ⟨by decide, by decide, by decide⟩, _, _, rfl, rfl, _, rfl, ite2 (fun e2 => ?_) (fun e2 => ?_)⟩
          · refine ⟨.ref a, rfl, a, _, 3, 3, rfl, rfl, upd_same, rfl, .ref a, rfl, a, _, 4, 4, rfl, rfl, upd_same, rfl, ?_⟩
            rw [upd_upd, upd_upd, upd_upd, upd_upd, upd_upd]
            exact ⟨_, i + 1, ns[i.toNat], 60, 1, rfl, by omega, upd_same, by rw [upd_ne nla]; exact hl, But.refl.upd⟩
          · rw [upd_upd, upd_upd, upd_upd]
            exact ⟨_, i + 1, ns[i.toNat], 4, 0, rfl, by omega, upd_same, by rw [upd_ne nla]; exact hl, But.refl.upd⟩
      · exact ⟨_, i, x, k, m, rfl, hi0, h, hl, But.refl⟩
    · rintro σ' H0 ⟨cv, i, x, k, m, rfl, hi0, h, hl, bt⟩
      have hl1 : ∀ o, (upd H0 a o) l = some (.lst (ns.map V.int)) := fun o => by
        rw [upd_ne nla]
        exact hl
      refine ⟨.ref a, rfl, a, _, 3, _, rfl, rfl, SqL.of h, atI_nat (j := 3) rfl, _, _, rfl, rfl, .ref a, rfl, a, _, 3, 3, rfl, rfl, h, rfl, ?_⟩
      have h2 : (upd H0 a (.lst ((five l i x k m).set 3 (.int (k - 1))))) a = some (.lst (five l i x (k - 1) m)) := upd_same
      refine ⟨.ref a, rfl, a, _, 4, _, rfl, rfl, SqL.of h2, atI_nat (j := 4) rfl, rfl, _, rfl, ite2 (fun e => ?_) (fun e => ?_)⟩
      · refine ⟨.ref a, rfl, a, _, 2, _, rfl, rfl, SqL.of h2, atI_nat (j := 2) rfl, .inl ⟨_, rfl, _, rfl, _, _, rfl, rfl, by omega, ?_⟩⟩
        refine ⟨.ref a, rfl, a, _, 2, _, rfl, rfl, SqL.of h2, atI_nat (j := 2) rfl, _, rfl, _, _, rfl, rfl, wide_div (b := 64) (by omega) (by omega) (by decide) (by decide), .ref a, rfl, a, _, 2, 2, rfl, rfl, h2, rfl, ?_⟩
        have h3 : ∀ o, (upd (upd H0 a o) a (.lst ((five l i x (k - 1) m).set 2 (.int (x / many))))) a = some (.lst (five l i (x / many) (k - 1) m)) := fun o => upd_same
        refine ⟨.ref a, rfl, a, _, 2, _, rfl, rfl, SqL.of (h3 _), atI_nat (j := 2) rfl, rfl, _, rfl, ite2 (fun e3 => ?_) (fun e3 => ?_)⟩
        · refine ⟨.ref a, rfl, a, _, 3, 3, rfl, rfl, upd_same, rfl, ?_⟩
          rw [upd_upd, upd_upd]
          exact ⟨_, rfl, q _ _ (fmod_lo x h1) (fmod_hi x h1) ⟨⟨i, x / many, 0, m, hi0, upd_same⟩, hl1 _⟩ bt.upd⟩
        · rw [upd_upd]
          exact ⟨_, rfl, q _ _ (fmod_lo x h1) (fmod_hi x h1) ⟨⟨i, x / many, k - 1, m, hi0, upd_same⟩, hl1 _⟩ bt.upd⟩
      · refine ⟨.ref a, rfl, a, _, 2, _, rfl, rfl, SqL.of h2, atI_nat (j := 2) rfl, _, _, rfl, rfl, .inr ⟨by decide, by decide⟩, .ref a, rfl, a, _, 3, _, rfl, rfl, SqL.of h2, atI_nat (j := 3) rfl, _, _, rfl, rfl, .inr ⟨by decide, by decide⟩, _, _, rfl, rfl, _, _, rfl, rfl, .inl ⟨_, rfl, _, _, rfl, rfl, (show (2147483647 : Int) ≠ 0 by decide), ?_⟩⟩
        refine ⟨_, rfl, _, _, rfl, rfl, .inr ⟨by decide, by decide⟩, .ref a, rfl, a, _, 3, _, rfl, rfl, SqL.of h2, atI_nat (j := 3) rfl, _, _, rfl, rfl, .inr ⟨by decide, by decide⟩, _, _, rfl, rfl, _, _, rfl, rfl, .inl ⟨_, rfl, _, _, rfl, rfl, (show (2147483629 : Int) ≠ 0 by decide), ?_⟩⟩
        refine ⟨_, rfl, .inl ⟨_, rfl, _, rfl, _, _, rfl, rfl, by omega, ?_⟩⟩
        exact q _ _ (fmod_lo _ h1) (fmod_hi _ h1) ⟨⟨i, x, k - 1, m, hi0, h2⟩, hl1 _⟩ bt.upd
/-- _law_source(script) -/
def spSource (K : PySem.W.Frag) : Sp := fun vs H Q _ => ∃ (a : Addr) (ns : List Int), vs = [.ref a] ∧ SqL K H a (ns.map V.int) ∧ ∀ H' p, Src H' p → H p = none → Same H H' → Q (.ref p) H'
theorem ok__law_source (T : Txt P K mg) : FnOk P w K mg base CX0 1 T.f__law_source T.d__law_source ["_law_script"] (spSource K) := by
  refine T.F__law_source.ok sc__law_source (fun vs H Q E h => ?_) (fun cdv A outer s H vs Q E hr h => ?_)
  · obtain ⟨a, ns, rfl, _⟩ := h
    rfl
  · obtain ⟨a, ns, rfl, S, q⟩ := h
    refine ⟨_, (pss_one (ps_ret (pe_lst (pa_cons (pe_callTy call_list_of (by rfl) T.n_list (by decide +kernel) (pa_cons (pv 0) pa_nil)) (pa_cons pe_int (pa_cons pe_int (pa_cons pe_int (pa_cons pe_int pa_nil)))))))), ?_⟩
    refine ⟨_, rfl, a, _, rfl, .inl S, fun l nl => ⟨(by show 5 ≤ sizeLine; decide), fun p np => ?_⟩⟩
    have lp : l ≠ p := fun e => by
      rw [e, upd_same] at np
      cases np
    have np0 : H p = none := by
      rw [upd_ne lp.symm] at np
      exact np
    refine q _ p ⟨l, ns, ⟨⟨0, 0, 0, 0, by decide, upd_same⟩, ?_⟩⟩ np0 fun b o e => ?_
    · rw [upd_ne lp, upd_same]
    · rw [upd_ne (ne_of_none e np0), upd_ne (ne_of_none e nl)]
      exact e
/-! ### answers of pure defs -/
def isBl : V → Bool
  | .bl _ => true
  | _ => false
def isIn : V → Bool
  | .int _ => true
  | _ => false
def isSt : V → Bool
  | .str _ => true
  | _ => false
def flat4 : V → Bool
  | .non => true
  | .bl _ => true
  | .int _ => true
  | .str _ => true
  | _ => false
theorem kit_flat {K : PySem.W.Frag} {x : V} (h : flat4 x = true) : ∃ t : String, (∀ H, TyX K H x (.type t)) ∧ kitB t "bool" = some (isBl x) ∧ kitB t "int" = some (isBl x || isIn x) ∧ kitB t "str" = some (isSt x) ∧ kitB t "list" = some false ∧ kitB t "tuple" = some false := by
  cases x with
  | non => exact ⟨"NoneType", fun _ => .base .non, by decide +kernel, by decide +kernel, by decide +kernel, by decide +kernel, by decide +kernel⟩
  | bl b => exact ⟨"bool", fun _ => .base (.bl b), (show kitB "bool" "bool" = some true by decide +kernel), (show kitB "bool" "int" = some true by decide +kernel), (show kitB "bool" "str" = some false by decide +kernel), (show kitB "bool" "list" = some false by decide +kernel), (show kitB "bool" "tuple" = some false by decide +kernel)⟩
  | int i => exact ⟨"int", fun _ => .base (.int i), (show kitB "int" "bool" = some false by decide +kernel), (show kitB "int" "int" = some true by decide +kernel), (show kitB "int" "str" = some false by decide +kernel), (show kitB "int" "list" = some false by decide +kernel), (show kitB "int" "tuple" = some false by decide +kernel)⟩
  | str z => exact ⟨"str", fun _ => .base (.str z), (show kitB "str" "bool" = some false by decide +kernel), (show kitB "str" "int" = some false by decide +kernel), (show kitB "str" "str" = some true by decide +kernel), (show kitB "str" "list" = some false by decide +kernel), (show kitB "str" "tuple" = some false by decide +kernel)⟩
  | byt b => cases h
  | flt b => cases h
  | ref a => cases h
  | ty n => cases h
open Evl in
theorem ev_isi {σ : L2.St} {H : Hp} {ta : TE} {x : V} {t c : String} {b : Bool} (h : Ev ta σ H x) (ht : ∀ H, TyX K H x (.type t)) (hk : kitB t c = some b) : Ev (tCB (rIsi K) (tCons ta (tCons (tC (.ty c)) tNil))) σ H (.bl b) :=
  ev_cb (ea_cons h (ea_cons ev_c ea_nil)) fun H1 _ Q q => ⟨x, .ty c, .type t, .type c, b, rfl, .ty c, ht H1, kit_ty hk, q H1 (Ex.refl H1)⟩
/-- _law_same(one, other) of two flat things -/
def spSame : Sp := fun vs H Q _ => ∃ x y, vs = [x, y] ∧ flat4 x = true ∧ flat4 y = true ∧ ∀ H', Evl.Ex H H' → Q (.bl (decide (x = y))) H'
theorem ne_bl {x y : V} (h : isBl x = true) (h2 : isBl y = false) : x ≠ y := fun e => by
  rw [e, h2] at h
  cases h
theorem scal_flat {x y : V} (hx : flat4 x = true) (hy : flat4 y = true) (h : (isBl x = true ∧ isBl y = true) ∨ (isIn x = true ∧ isIn y = true) ∨ (isSt x = true ∧ isSt y = true)) : scal x y = true := by
  cases x <;> cases y <;> first | rfl | (simp [isBl, isIn, isSt] at h) | cases hx | cases hy
theorem non_of {x : V} (h : flat4 x = true) (h1 : isBl x = false) (h2 : isIn x = false) (h3 : isSt x = false) : x = .non := by
  cases x with
  | non => rfl
  | bl b => cases h1
  | int i => cases h2
  | str z => cases h3
  | byt b => cases h
  | flt b => cases h
  | ref a => cases h
  | ty n => cases h
--@HOT ok__law_same
open Evl in
theorem ok__law_same (T : Txt P K mg) : FnOk P w K mg base CX0 1 T.f__law_same T.d__law_same ["_law_one", "_law_other"] spSame := by
  refine T.F__law_same.ok sc__law_same (fun vs H Q E h => ?_) (fun cdv A outer s H vs Q E hr h => ?_)
  · obtain ⟨x, y, rfl, _⟩ := h
    rfl
  · obtain ⟨x, y, rfl, hx, hy, q⟩ := h
    obtain ⟨tx, kx, bx, ix, sx, lx, ux⟩ := kit_flat (K := K) hx
    obtain ⟨ty, ky, by_, iy, sy, ly, uy⟩ := kit_flat (K := K) hy
    have vx : ∀ (σ : L2.St) (H : Hp), σ[0]? = some (some x) → Ev (tVar 0) σ H x := fun σ H e => ev_var e
    have vy : ∀ (σ : L2.St) (H : Hp), σ[1]? = some (some y) → Ev (tVar 1) σ H y := fun σ H e => ev_var e
    refine ⟨_, (pss_cons (ps_if (PW.pt (pw_or (pt_val (pe_callB call_isi (by rfl) T.n_isinstance (by decide +kernel) (pa_cons (pv 0) (pa_cons (pe_bltn (v := .ty "bool") (u := .type "bool") (by rfl) T.n_bool (by decide +kernel) rfl) pa_nil)))) (pw_or1 (pt_val (pe_callB call_isi (by rfl) T.n_isinstance (by decide +kernel) (pa_cons (pv 1) (pa_cons (pe_bltn (v := .ty "bool") (u := .type "bool") (by rfl) T.n_bool (by decide +kernel) rfl) pa_nil))))))) (pss_one (ps_ret (pe_and (pe_callB call_isi (by rfl) T.n_isinstance (by decide +kernel) (pa_cons (pv 0) (pa_cons (pe_bltn (v := .ty "bool") (u := .type "bool") (by rfl) T.n_bool (by decide +kernel) rfl) pa_nil))) (pe_and (pe_callB call_isi (by rfl) T.n_isinstance (by decide +kernel) (pa_cons (pv 1) (pa_cons (pe_bltn (v := .ty "bool") (u := .type "bool") (by rfl) T.n_bool (by decide +kernel) rfl) pa_nil))) (pe_one (pe_cmpR op_eq (pv 0) (pv 1) (nomark _))))))) pss_nil)
      (pss_cons (ps_if (PW.pt (pw_or (pt_val (pe_callB call_isi (by rfl) T.n_isinstance (by decide +kernel) (pa_cons (pv 0) (pa_cons (pe_bltn (v := .ty "int") (u := .type "int") (by rfl) T.n_int (by decide +kernel) rfl) pa_nil)))) (pw_or1 (pt_val (pe_callB call_isi (by rfl) T.n_isinstance (by decide +kernel) (pa_cons (pv 1) (pa_cons (pe_bltn (v := .ty "int") (u := .type "int") (by rfl) T.n_int (by decide +kernel) rfl) pa_nil))))))) (pss_one (ps_ret (pe_and (pe_callB call_isi (by rfl) T.n_isinstance (by decide +kernel) (pa_cons (pv 0) (pa_cons (pe_bltn (v := .ty "int") (u := .type "int") (by rfl) T.n_int (by decide +kernel) rfl) pa_nil))) (pe_and (pe_callB call_isi (by rfl) T.n_isinstance (by decide +kernel) (pa_cons (pv 1) (pa_cons (pe_bltn (v := .ty "int") (u := .type "int") (by rfl) T.n_int (by decide +kernel) rfl) pa_nil))) (pe_one (pe_cmpR op_eq (pv 0) (pv 1) (nomark _))))))) pss_nil)
      (pss_cons (ps_if (PW.pt (pw_or (pt_val (pe_callB call_isi (by rfl) T.n_isinstance (by decide +kernel) (pa_cons (pv 0) (pa_cons (pe_bltn (v := .ty "str") (u := .type "str") (by rfl) T.n_str (by decide +kernel) rfl) pa_nil)))) (pw_or1 (pt_val (pe_callB call_isi (by rfl) T.n_isinstance (by decide +kernel) (pa_cons (pv 1) (pa_cons (pe_bltn (v := .ty "str") (u := .type "str") (by rfl) T.n_str (by decide +kernel) rfl) pa_nil))))))) (pss_one (ps_ret (pe_and (pe_callB call_isi (by rfl) T.n_isinstance (by decide +kernel) (pa_cons (pv 0) (pa_cons (pe_bltn (v := .ty "str") (u := .type "str") (by rfl) T.n_str (by decide +kernel) rfl) pa_nil))) (pe_and (pe_callB call_isi (by rfl) T.n_isinstance (by decide +kernel) (pa_cons (pv 1) (pa_cons (pe_bltn (v := .ty "str") (u := .type "str") (by rfl) T.n_str (by decide +kernel) rfl) pa_nil))) (pe_one (pe_cmpR op_eq (pv 0) (pv 1) (nomark _))))))) pss_nil)
      (pss_cons (ps_set (i := 2) sc__law_same.nd rfl (.inl rfl) (pe_and (pe_callB call_isi (by rfl) T.n_isinstance (by decide +kernel) (pa_cons (pv 0) (pa_cons (pe_bltn (v := .ty "list") (u := .type "list") (by rfl) T.n_list (by decide +kernel) rfl) pa_nil))) (pe_one (pe_callB call_isi (by rfl) T.n_isinstance (by decide +kernel) (pa_cons (pv 1) (pa_cons (pe_bltn (v := .ty "list") (u := .type "list") (by rfl) T.n_list (by decide +kernel) rfl) pa_nil))))))
      (pss_cons (ps_if (PW.pt (pw_and (pt_not (pt_val (pv 2))) (pw_and1 (pt_not (PW.pt (pw_and (pt_val (pe_callB call_isi (by rfl) T.n_isinstance (by decide +kernel) (pa_cons (pv 0) (pa_cons (pe_bltn (v := .ty "tuple") (u := .type "tuple") (by rfl) T.n_tuple (by decide +kernel) rfl) pa_nil)))) (pw_and1 (pt_val (pe_callB call_isi (by rfl) T.n_isinstance (by decide +kernel) (pa_cons (pv 1) (pa_cons (pe_bltn (v := .ty "tuple") (u := .type "tuple") (by rfl) T.n_tuple (by decide +kernel) rfl) pa_nil))))))))))) (pss_one (ps_ret (pe_and (pe_cmpR op_isN (pv 0) pe_non (nomark _)) (pe_one (pe_cmpR op_isN (pv 1) pe_non (nomark _)))))) pss_nil)
      (pss_one ps_never)))))), ?_⟩
    have cmp : ∀ (σ : L2.St) (H1 : Hp), σ[0]? = some (some x) → σ[1]? = some (some y) → scal x y = true → Ev (tOp rEq (tVar 0) (tVar 1)) σ H1 (.bl (decide (x = y))) := fun σ H1 e0 e1 hs => ev_op (ev_var e0) (ev_var e1) (rv_eq hs)
    refine q_when (et_or (et_B (ev_isi (vx _ _ rfl) kx bx)) (fun _ => et_B (ev_isi (vy _ _ rfl) ky by_))) (fun hb H1 e1 => ?_) (fun hb H1 e1 => ?_)
    · refine s_ret (v := .bl (decide (x = y))) (ev_is (ev_andV (ev_isi (vx _ _ rfl) kx bx) (fun h1 => ev_andV (b := decide (x = y)) (ev_isi (vy _ _ rfl) ky by_) (fun h2 => cmp _ _ rfl rfl (scal_flat hx hy (.inl ⟨h1, h2⟩))))) ?_) (fun H2 e2 => q H2 (e1.trans e2))
      cases h1 : isBl x with
      | true =>
        cases h2 : isBl y with
        | true => rfl
        | false => rw [decide_eq_false (ne_bl h1 h2)]; rfl
      | false =>
        rw [h1] at hb
        have h2 : isBl y = true := hb
        rw [decide_eq_false (ne_bl h2 h1).symm]
        rfl
    · have nb : isBl x = false ∧ isBl y = false := by simpa using hb
      rw [nb.1] at ix
      rw [nb.2] at iy
      refine q_when (et_or (et_B (ev_isi (vx _ _ rfl) kx ix)) (fun _ => et_B (ev_isi (vy _ _ rfl) ky iy))) (fun hi H2 e2 => ?_) (fun hi H2 e2 => ?_)
      · refine s_ret (v := .bl (decide (x = y))) (ev_is (ev_andV (ev_isi (vx _ _ rfl) kx ix) (fun h1 => ev_andV (b := decide (x = y)) (ev_isi (vy _ _ rfl) ky iy) (fun h2 => cmp _ _ rfl rfl (scal_flat hx hy (.inr (.inl ⟨h1, h2⟩)))))) ?_) (fun H3 e3 => q H3 ((e1.trans e2).trans e3))
        cases x <;> cases y <;> simp_all [isIn, isBl]
      · have ni : isIn x = false ∧ isIn y = false := by simpa using hi
        refine q_when (et_or (et_B (ev_isi (vx _ _ rfl) kx sx)) (fun _ => et_B (ev_isi (vy _ _ rfl) ky sy))) (fun hs H3 e3 => ?_) (fun hs H3 e3 => ?_)
        · refine s_ret (v := .bl (decide (x = y))) (ev_is (ev_andV (ev_isi (vx _ _ rfl) kx sx) (fun h1 => ev_andV (b := decide (x = y)) (ev_isi (vy _ _ rfl) ky sy) (fun h2 => cmp _ _ rfl rfl (scal_flat hx hy (.inr (.inr ⟨h1, h2⟩)))))) ?_) (fun H4 e4 => q H4 (((e1.trans e2).trans e3).trans e4))
          cases x <;> cases y <;> simp_all [isSt, isBl]
        · have ns : isSt x = false ∧ isSt y = false := by simpa using hs
          have xn : x = .non := non_of hx nb.1 ni.1 ns.1
          have yn : y = .non := non_of hy nb.2 ni.2 ns.2
          refine q_asg (v := .bl false) (ev_is (ev_andV (b := false) (ev_isi (vx _ _ rfl) kx lx) (fun _ => ev_isi (vy _ _ rfl) ky ly)) rfl) (fun H4 e4 => ?_)
          refine q_when (b := true) (et_is (et_and (et_not (et_B (ev_var rfl))) (fun _ => et_not (et_and (b := false) (et_B (ev_isi (vx _ _ rfl) kx ux)) (fun _ => et_B (ev_isi (vy _ _ rfl) ky uy))))) rfl) (fun _ H5 e5 => ?_) (fun hf => by cases hf)
          refine s_ret (v := .bl true) (ev_is (ev_andV (a := true) (b := true) (ev_op (vx _ _ rfl) ev_c (fun H6 _ Q' q' => ⟨rfl, ?_⟩)) (fun _ => ev_op (vy _ _ rfl) ev_c (fun H6 _ Q' q' => ⟨rfl, ?_⟩))) rfl) (fun H6 e6 => ?_)
          · rw [xn]
            exact q' H6 (Ex.refl H6)
          · rw [yn]
            exact q' H6 (Ex.refl H6)
          · have z := q H6 (((((e1.trans e2).trans e3).trans e4).trans e5).trans e6)
            rw [xn, yn] at z
            exact z
--@COLD
/-! ### texts -/
/-- a text of at most n signs, each below 128 -/
def Txt8 (n : Nat) (z : Str) : Prop := z.cps.size ≤ n ∧ ∀ c ∈ z.cps.toList, c < 128
theorem Txt8.app {n m : Nat} {x y : Str} (a : Txt8 n x) (b : Txt8 m y) : Txt8 (n + m) (x ++ y) := by
  have e : (x ++ y).cps = x.cps ++ y.cps := rfl
  refine ⟨?_, fun c hc => ?_⟩
  · rw [e, Array.size_append]
    have h1 := a.1
    have h2 := b.1
    omega
  · rw [e, Array.toList_append] at hc
    rcases List.mem_append.mp hc with h | h
    · exact a.2 c h
    · exact b.2 c h
theorem Txt8.mono {n m : Nat} {x : Str} (a : Txt8 n x) (h : n ≤ m) : Txt8 m x := ⟨Nat.le_trans a.1 h, a.2⟩
theorem Txt8.sign {z : Str} {i c : Nat} (h : z.cps[i]? = some c) (a : ∀ c ∈ z.cps.toList, c < 128) : Txt8 1 ⟨#[c]⟩ := by
  refine ⟨Nat.le_refl _, fun d hd => ?_⟩
  have e : d = c := by simpa using hd
  rw [e]
  refine a c ?_
  rw [← Array.getElem?_toList] at h
  exact List.mem_of_getElem? h
theorem line_of {n : Nat} (h : n ≤ 1000) : n ≤ sizeLine := Nat.le_of_lt (small1000 h)
/-- an item of a written text -/
theorem item_of {z : Str} {r n : Int} (h0 : 0 ≤ r) (h : r < n) (hn : (z.cps.size : Int) = n) (ha : ∀ c ∈ z.cps.toList, c < 128) : ∃ c, z.cps[r.toNat]? = some c ∧ r < z.length ∧ Txt8 1 ⟨#[c]⟩ := by
  have hl : r.toNat < z.cps.size := by omega
  have e : z.cps[r.toNat]? = some z.cps[r.toNat] := Array.getElem?_eq_getElem hl
  exact ⟨_, e, by show r < (z.cps.size : Int); omega, Txt8.sign e ha⟩
/-! ### names and literals: the mathematics -/
def ltr (c : Nat) : Bool := decide (c ∈ ("abcdefghijklmnopqrstuvwxyz" : Str).cps.toList)
def dig (c : Nat) : Bool := decide (c ∈ ("0123456789" : Str).cps.toList)
def lod (c : Nat) : Bool := decide (c ∈ ("abcdefghijklmnopqrstuvwxyz0123456789" : Str).cps.toList)
theorem lod_eq (c : Nat) : lod c = (ltr c || dig c) := by
  have e : ("abcdefghijklmnopqrstuvwxyz0123456789" : Str).cps.toList = ("abcdefghijklmnopqrstuvwxyz" : Str).cps.toList ++ ("0123456789" : Str).cps.toList := by decide +kernel
  unfold lod ltr dig
  rw [e, ← Bool.decide_or]
  exact decide_eq_decide.mpr List.mem_append
/-- is it a name -/
def nameL (l : List Nat) : Bool := decide (1 ≤ l.length) && (decide (l.length ≤ 8) && ((l.head?.any ltr) && l.all lod))
def isName (z : Str) : Bool := nameL z.cps.toList
/-- begins it with a minus -/
def dashL (l : List Nat) : Bool := l.head? == some 45
def dash (z : Str) : Bool := dashL z.cps.toList
def Sl (l : List Nat) : Str := ⟨l.toArray⟩
/-- without its minus -/
def bare (z : Str) : Str := if dash z = true then Sl (z.cps.toList.drop 1) else z
theorem str_eq {x y : Str} (h : x.cps.toList = y.cps.toList) : x = y := by
  cases x with
  | mk a =>
    cases y with
    | mk b => rw [show a = b from Array.toList_inj.mp h]
theorem cut_1 (z : Str) : (cutS z none (some 1)).cps.toList = z.cps.toList.take 1 := by
  have e : HT.sIx z.length z.length (some 1) = min 1 z.length := HT.sIx_nat z.length z.length 1
  have l : z.cps.toList.length = z.length := Array.length_toList
  show ((z.cps.toList.drop (HT.sIx z.length 0 none)).take (HT.sIx z.length z.length (some 1) - HT.sIx z.length 0 none)).toArray.toList = _
  rw [e, HT.sIx_none, List.drop_zero, Nat.sub_zero]
  show List.take (min 1 z.length) z.cps.toList = _
  rw [← l, ← List.take_take, List.take_length]
theorem cut_from1 (z : Str) : (cutS z (some 1) none).cps.toList = z.cps.toList.drop 1 := by
  have e : HT.sIx z.length 0 (some 1) = min 1 z.length := HT.sIx_nat z.length 0 1
  have l : z.cps.toList.length = z.length := Array.length_toList
  show ((z.cps.toList.drop (HT.sIx z.length 0 (some 1))).take (HT.sIx z.length z.length none - HT.sIx z.length 0 (some 1))).toArray.toList = _
  rw [e, HT.sIx_none]
  show List.take (z.length - min 1 z.length) (z.cps.toList.drop (min 1 z.length)) = _
  rw [← l]
  cases z.cps.toList with
  | nil => rfl
  | cons c r =>
    rw [show min 1 (c :: r).length = 1 by rw [List.length_cons]; omega]
    show List.take ((c :: r).length - 1) r = r
    rw [List.length_cons, Nat.add_sub_cancel]
    exact List.take_length
theorem dash_cut (z : Str) : decide (V.str (cutS z none (some 1)) = V.str "-") = dash z := by
  unfold dash dashL
  by_cases h : z.cps.toList.head? = some 45
  · rw [show (z.cps.toList.head? == some 45) = true by rw [h]; rfl]
    refine decide_eq_true (congrArg V.str (str_eq ?_))
    rw [cut_1]
    cases e : z.cps.toList with
    | nil => rw [e] at h; cases h
    | cons c r =>
      rw [e] at h
      rw [show c = 45 from Option.some.inj h]
      rfl
  · rw [show (z.cps.toList.head? == some 45) = false from beq_eq_false_iff_ne.mpr h]
    refine decide_eq_false fun q => h ?_
    have q2 := congrArg (fun y : Str => y.cps.toList) (V.str.inj q)
    have q3 : z.cps.toList.take 1 = [45] := by
      rw [← cut_1]
      exact q2
    cases e : z.cps.toList with
    | nil => rw [e] at q3; cases q3
    | cons c r =>
      rw [e] at q3
      exact congrArg some (List.cons.inj q3).1
theorem bare_cut {z : Str} (h : dash z = true) : cutS z (some 1) none = bare z := by
  unfold bare
  rw [if_pos h]
  refine str_eq ?_
  rw [cut_from1]
  rfl
theorem bare_no {z : Str} (h : dash z = false) : bare z = z := by
  unfold bare
  rw [h, if_neg Bool.false_ne_true]
theorem bare_rp (z : Str) : Txt.removeprefix z "-" = bare z := by
  rw [PySem.StrLaws.removeprefix_eq, PySem.StrLaws.subAt_eq]
  have l : z.cps.toList.length = z.length := Array.length_toList
  have one : ("-" : Str).length = 1 := by decide
  have cp : ("-" : Str).cps.toList = [45] := by decide
  rw [one, cp, List.drop_zero]
  unfold bare dash dashL
  cases e : z.cps.toList with
  | nil =>
    rw [if_neg (by simp), if_neg (by simp)]
  | cons c r =>
    have hl : z.length = r.length + 1 := by
      rw [← l, e, List.length_cons]
    by_cases h : c = 45
    · subst h
      rw [if_pos (by rw [hl]; simp), if_pos (by rfl)]
      refine str_eq ?_
      show List.take (z.length - 1) (List.drop 1 (45 :: r)) = List.drop 1 (45 :: r)
      rw [hl, Nat.add_sub_cancel]
      exact List.take_length
    · rw [if_neg (by simp [h]), if_neg (by simp [h])]
theorem bare_len (z : Str) : (bare z).cps.size ≤ z.cps.size := by
  unfold bare
  by_cases h : dash z = true
  · rw [if_pos h]
    show (z.cps.toList.drop 1).toArray.size ≤ _
    rw [List.size_toArray, List.length_drop, Array.length_toList]
    omega
  · rw [if_neg h]
    exact Nat.le_refl _
theorem bare_same (z : Str) : decide (bare z = z) = !dash z := by
  by_cases hd : dash z = true
  · rw [hd]
    refine decide_eq_false fun q => ?_
    have q2 := congrArg (fun y : Str => y.cps.toList.length) q
    unfold bare at q2
    rw [if_pos hd] at q2
    have q3 : (z.cps.toList.drop 1).length = z.cps.toList.length := q2
    rw [List.length_drop] at q3
    unfold dash dashL at hd
    cases e : z.cps.toList with
    | nil => rw [e] at hd; cases hd
    | cons c r => rw [e, List.length_cons] at q3; omega
  · have hd2 : dash z = false := by simpa using hd
    rw [bare_no hd2, hd2]
    exact decide_eq_true rfl
def isLit (z : Str) : Bool := isName (bare z)
/-- the other sign -/
def flip (z : Str) : Str := if dash z = true then bare z else "-" ++ z
/-! ### further answers -/
open Evl in
theorem rv_inS {H : Hp} {c : Nat} {z : Str} : RV (fun x y H Q => ∃ (c : Nat) (z : Str), x = .str ⟨#[c]⟩ ∧ y = .str z ∧ Q (.bl (decide (c ∈ z.cps.toList))) H) (.str ⟨#[c]⟩) (.str z) H (.bl (decide (c ∈ z.cps.toList))) := fun H1 _ _ q => ⟨c, z, rfl, rfl, q H1 (Ex.refl H1)⟩
open Evl in
theorem rv_itemS {H : Hp} {c : Nat} {z : Str} {i : Nat} (h : z.cps[i]? = some c) (hz : z.cps.size ≤ 100000) : RV (fun x y H Q => ∃ z i c, x = .str z ∧ y = .int i ∧ 0 ≤ i ∧ i < 2 ^ 63 ∧ i < z.length ∧ z.cps[i.toNat]? = some c ∧ Q (.str ⟨#[c]⟩) H) (.str z) (.int (i : Int)) H (.str ⟨#[c]⟩) := fun H1 _ _ q => by
  have hl := (Array.getElem?_eq_some_iff.mp h).1
  have e : (z.length : Nat) = z.cps.size := rfl
  exact ⟨z, i, c, rfl, rfl, by omega, by omega, by omega, by rw [Int.toNat_natCast]; exact h, q H1 (Ex.refl H1)⟩
open Evl in
theorem ev_lenS {σ : L2.St} {H : Hp} {ta : TE} {z : Str} (h : Ev ta σ H (.str z)) (hz : z.cps.size ≤ 100000) : Ev (tCB (fun xs H Q => ∃ z, xs = [V.str z] ∧ z.length ≤ sizeLine ∧ Q (.int z.length) H) (tCons ta tNil)) σ H (.int (z.cps.size : Int)) :=
  ev_cb (ea_cons h ea_nil) fun H1 _ Q q => ⟨z, rfl, sz_of hz, q H1 (Ex.refl H1)⟩
open Evl in
theorem ev_chain {σ : L2.St} {H : Hp} {r r' : R2} {ta tb tc : TE} {x y z : V} {a b : Bool} (ha : Ev ta σ H x) (hb : Ev tb σ H y) (hr : RV r x y H (.bl a)) (h2 : a = true → Ev tc σ H z) (h3 : a = true → RV r' y z H (.bl b)) : Ev (tChain r r' ta tb tc) σ H (.bl (a && b)) := fun H1 e Q q =>
  ha H1 e _ fun H2 e2 => hb H2 (e.trans e2) _ fun H3 e3 => hr H3 ((e.trans e2).trans e3) _ fun H4 e4 => ⟨a, rfl, by
    cases a with
    | true =>
      refine iteT ?_
      exact h2 rfl H4 (((e.trans e2).trans e3).trans e4) _ fun H5 e5 => h3 rfl H5 ((((e.trans e2).trans e3).trans e4).trans e5) Q fun H6 e6 => q H6 ((((e2.trans e3).trans e4).trans e5).trans e6)
    | false =>
      refine iteF ?_
      exact q H4 ((e2.trans e3).trans e4)⟩
open Evl in
theorem ev_all {σ : L2.St} {H : Hp} {tl : TE} {bs : List Bool} (h : EvL tl σ H (bs.map V.bl)) : Ev (tCB (rAll K) (tCons tl tNil)) σ H (.bl (bs.all id)) := fun H1 e Q q =>
  h H1 e _ fun p H2 _ e2 hp => ⟨p, bs, rfl, sq_of hp, q H2 e2⟩
open Evl in
/-- [e for c in a text] -/
theorem el_lcS {σ : L2.St} {H : Hp} {z : Str} {tl te : TE} {j : Nat} {vs : List Nat} (f : Nat → V) (h : Ev tl σ H (.str z)) (hz : z.cps.size ≤ 40000) (hw : ∀ x, wipe ((wipe σ vs).set j (some x)) vs = wipe σ vs)
    (he : ∀ (c : Nat) H1, Ex H H1 → c ∈ z.cps.toList → Ev te ((wipe σ vs).set j (some (.str ⟨#[c]⟩))) H1 (f c)) : EvL (tLc (iStr tl) (gName j) tYes te vs) σ H (z.cps.toList.map f) := fun H0 e Q q => h H0 e _ fun H1 e1 => ⟨z, rfl, fun Dl hD => by
  refine lc_it walk_str (fun i H' => H1 Dl = none ∧ Ex H1 H' ∧ H' Dl = some (.lst ((z.cps.toList.take i).map f))) ⟨hD, Ex.new hD, upd_same⟩ (fun _ _ _ _ => trivial) ?_ ?_
  · rintro i x H2 H3 hi ⟨p1, p2, p3⟩ ⟨rfl, c, hc, rfl⟩
    have hc2 : z.cps.toList[i]? = some c := by
      rw [Array.getElem?_toList]
      exact hc
    have hm : c ∈ z.cps.toList := List.mem_of_getElem? hc2
    refine ⟨hw _, ?_⟩
    unfold tYes
    dsimp only
    rw [if_pos rfl]
    refine he c H1 (e.trans e1) hm H3 p2 _ fun H4 e4 => ⟨_, e4 _ _ p3, ?_, p1, Ex.mut (p2.trans e4) p1, ?_⟩
    · rw [List.length_map]
      exact sz_lt (by have := List.length_take_le i z.cps.toList; omega)
    · rw [List.take_add_one, hc2, List.map_append]
      exact upd_same
  · rintro H2 ⟨p1, p2, p3⟩
    have ef : z.cps.toList.take z.cps.size = z.cps.toList := by
      rw [← Array.length_toList]
      exact List.take_length
    rw [ef] at p3
    exact q Dl H2 (fresh_back e1 p1) (e1.trans p2) p3⟩
/-! ### is_name, is_literal and what the law says of them -/
def spIsName : Sp := fun vs H Q _ => ∃ z : Str, vs = [.str z] ∧ z.cps.size ≤ 1000 ∧ ∀ H', Evl.Ex H H' → Q (.bl (isName z)) H'
open Evl in
theorem ok_is_name (T : Txt P K mg) : FnOk P w K mg base CX0 1 T.f_is_name T.d_is_name ["text"] spIsName := by
  refine T.F_is_name.ok sc_is_name (fun vs H Q E h => ?_) (fun cdv A outer s H vs Q E hr h => ?_)
  · obtain ⟨z, rfl, _⟩ := h
    rfl
  · obtain ⟨z, rfl, hz, q⟩ := h
    have vz : ∀ (σ : L2.St) (H : Hp), σ[0]? = some (some (V.str z)) → Ev (tVar 0) σ H (.str z) := fun σ H e => ev_var e
    refine ⟨_, (pss_cons (ps_if (pt_not (pt_chain op_le op_le pe_int (pe_callB call_len_str (by rfl) T.n_len PySem.boot_len (pa_cons (pv 0) pa_nil)) (pe_glob (v := .int 8) rfl T.v_LONGEST_NAME ⟨_, rfl⟩))) (pss_one (ps_ret pe_bl)) pss_nil)
      (pss_one (ps_ret (pe_and (pe_cmpR op_in_sign (pe_item_str (pv 0) pe_int (fun _ _ => rfl)) (pe_glob (v := .str "abcdefghijklmnopqrstuvwxyz") rfl T.v_LETTERS ⟨_, rfl⟩) (by rfl)) (pe_one (pe_callB (cr_all rfl) (by rfl) T.n_all (by decide +kernel) (pa_cons (pe_lc (own := [("sign", 1)]) (g := gName 1) (by rfl) sc_is_name.nd (pi_str (pv 0)) (blkOk_by (own := [("sign", 1)]) (N := N_is_name) (sc := defScope s_is_name) (by decide +kernel)) (fun _ _ _ _ _ => pg_name (i := 1) sc_is_name.nd rfl (Or.inl rfl)) (fun _ _ _ _ _ => pts_nil) (fun _ _ _ _ _ => (pe_cmpR op_in_sign (pv 1) (pe_glob (v := .str "abcdefghijklmnopqrstuvwxyz0123456789") rfl T.v_LETTERS_AND_DIGITS ⟨_, rfl⟩) (by rfl)))) pa_nil))))))), ?_⟩
    have l : z.cps.toList.length = z.cps.size := Array.length_toList
    refine q_when (et_not (et_test (ev_chain (a := decide (1 ≤ z.cps.size)) (b := decide (z.cps.size ≤ 8)) ev_c (ev_lenS (vz _ _ rfl) (by omega)) (fun H1 _ Q q => ⟨1, _, rfl, rfl, ?_⟩) (fun _ => ev_c) (fun _ H1 _ Q q => ⟨_, 8, rfl, rfl, ?_⟩)))) (fun hb H1 e1 => ?_) (fun hb H1 e1 => ?_)
    · have e : decide ((1 : Int) ≤ (z.cps.size : Int)) = decide (1 ≤ z.cps.size) := decide_eq_decide.mpr (by omega)
      show Q (.bl (decide ((1 : Int) ≤ (z.cps.size : Int)))) H1
      rw [e]
      exact q H1 (Ex.refl H1)
    · have e : decide ((z.cps.size : Int) ≤ 8) = decide (z.cps.size ≤ 8) := decide_eq_decide.mpr (by omega)
      show Q (.bl (decide ((z.cps.size : Int) ≤ 8))) H1
      rw [e]
      exact q H1 (Ex.refl H1)
    · refine s_ret (v := .bl (isName z)) (ev_is ev_c ?_) (fun H2 e2 => q H2 (e1.trans e2))
      have hb2 : (decide (1 ≤ z.cps.size) && decide (z.cps.size ≤ 8)) = false := by
        rw [Bool.not_eq_true'] at hb
        exact hb
      unfold isName nameL
      rw [← Bool.and_assoc, l, hb2]
      rfl
    · have hb2 : (decide (1 ≤ z.cps.size) && decide (z.cps.size ≤ 8)) = true := by
        rw [Bool.not_eq_false'] at hb
        exact hb
      rw [Bool.and_eq_true] at hb2
      have h1 : 1 ≤ z.cps.size := of_decide_eq_true hb2.1
      obtain ⟨c, r, hc⟩ : ∃ c r, z.cps.toList = c :: r := by
        cases e : z.cps.toList with
        | nil => rw [e] at l; simp at l; omega
        | cons c r => exact ⟨c, r, rfl⟩
      have c0 : z.cps[0]? = some c := by
        rw [← Array.getElem?_toList, hc]
        rfl
      refine s_ret (v := .bl (isName z)) (ev_is (ev_andV (a := ltr c) (b := z.cps.toList.all lod) (ev_op (ev_op (vz _ _ rfl) ev_c (rv_itemS (i := 0) c0 (by omega))) ev_c rv_inS) (fun _ => ev_is (ev_all (bs := z.cps.toList.map lod) ?_) ?_)) ?_) (fun H2 e2 => q H2 (e1.trans e2))
      · rw [List.map_map]
        exact el_lcS (f := fun c => V.bl (lod c)) (vz _ _ rfl) (by omega) (fun _ => rfl) (fun c H2 e2 hm => ev_op (ev_var rfl) ev_c rv_inS)
      · rw [List.all_map]
        rfl
      · unfold isName nameL
        rw [l, hb2.1, hb2.2, hc]
        rfl
/-! ### literals -/
open Evl in
theorem rv_rp {H : Hp} {te : TE} {σ : L2.St} {z : Str} (h : Ev te σ H (.str z)) (hz : z.cps.size ≤ 1000) : Ev (tBM K "str" (fun x xs H Q => ∃ a b, x = .str a ∧ xs = [.str b] ∧ a.length ≤ sizeLine ∧ Q (.str (Txt.removeprefix a b)) H) te (tCons (tC (.str "-")) tNil)) σ H (.str (bare z)) := fun H1 e Q q =>
  h H1 e _ fun H2 e2 => ⟨rfl, z, "-", rfl, rfl, sz_of (by show z.cps.size ≤ _; omega), by rw [bare_rp]; exact q H2 e2⟩
def spIsLit : Sp := fun vs H Q _ => ∃ z : Str, vs = [.str z] ∧ z.cps.size ≤ 1000 ∧ ∀ H', Evl.Ex H H' → Q (.bl (isLit z)) H'
open Evl in
theorem ok_is_literal (T : Txt P K mg) : FnOk P w K mg base CX0 2 T.f_is_literal T.d_is_literal ["text"] spIsLit := by
  refine T.F_is_literal.ok sc_is_literal (fun vs H Q E h => ?_) (fun cdv A outer s H vs Q E hr h => ?_)
  · obtain ⟨z, rfl, _⟩ := h
    rfl
  · obtain ⟨z, rfl, hz, q⟩ := h
    refine ⟨_, (pss_one (ps_ret (pe_call (ok_is_name T) (hr.mono (by decide)) rfl T.g_is_name T.F_is_name.kp T.b_is_name .nil pass0 (pa_cons (pe_bm PySem.F.plainAttrs_str PySem.F.slot_str_removeprefix PySem.F.type_str_removeprefix mt_removeprefix (pv 0) (pa_cons pe_str pa_nil)) pa_nil)))), ?_⟩
    refine s_ret (ev_call (z := .bl (isLit z)) (ea_cons (rv_rp (ev_var rfl) hz) ea_nil) (fun H1 e1 Q' q' E' => ⟨bare z, rfl, Nat.le_trans (bare_len z) hz, fun H2 e2 => q' H2 e2⟩)) (fun H1 e1 => q H1 e1)
theorem flip_dash {z : Str} (h : dash z = true) : flip z = bare z := if_pos h
theorem flip_no {z : Str} (h : dash z = false) : flip z = "-" ++ z := by
  unfold flip
  rw [h, if_neg Bool.false_ne_true]
/-- a def that takes a literal: g of it, or BadLiteral with the text -/
def spLit (C : Addr) (g : Str → V) : Sp := fun vs H Q E => ∃ z : Str, vs = [.str z] ∧ z.cps.size ≤ 50 ∧ (∀ c ∈ z.cps.toList, c < 128) ∧ (isLit z = true → ∀ H', Evl.Ex H H' → Q (g z) H') ∧
  (isLit z = false → ∀ H' d, Evl.Ex H H' → H' d = some (.xd [("text", .str z)]) → E (.ref C) (some d) H')
theorem repr_le {z : Str} (hz : z.cps.size ≤ 50) (hc : ∀ c ∈ z.cps.toList, c < 128) : (reprText z).length ≤ 1000 := by
  have h := PySem.StrLaws.reprText_len z fun c h => Nat.lt_trans (hc c h) (by decide)
  have h2 : z.length ≤ 50 := hz
  omega
theorem ok_check_literal (T : Txt P K mg) : FnOk P w K mg base (L2N.CX P w) 3 T.f_check_literal T.d_check_literal ["text"] (spLit T.C_BadLiteral fun _ => .non) := by
  refine T.F_check_literal.okN sc_check_literal (fun vs H Q E h => ?_) (fun cdv A outer s H vs Q E hr h => ?_)
  · obtain ⟨z, rfl, _⟩ := h
    rfl
  · obtain ⟨z, rfl, hz, hc, q1, q2⟩ := h
    refine ⟨_, (pss_one (ps_if (pt_not (pt_val (pe_call (ok_is_literal T) (hr.mono (by decide)) rfl T.g_is_literal T.F_is_literal.kp T.b_is_literal .nil pass0 (pa_cons (pv 0) pa_nil)))) (pss_one (L2N.ps_raise rfl (L2N.takes_of rfl rfl rfl rfl) (pmk1 T.E_BadLiteral rfl fld_text T.o_BadLiteral hr (pa_cons (pv 0) pa_nil) rfl (by decide)))) pss_nil)), ?_⟩
    refine ⟨_, rfl, z, rfl, by omega, fun H1 e1 => ⟨_, rfl, ?_⟩⟩
    cases hl : isLit z with
    | true =>
      refine iteF ?_
      exact q1 hl H1 e1
    | false =>
      refine iteT ?_
      refine ⟨_, rfl, _, rfl, fun u hu => ?_, fun d hd => q2 hl _ d (e1.trans (Evl.Ex.new hd)) upd_same⟩
      obtain ⟨t, rfl⟩ := hu
      exact msg_cr fld_text (by decide) (repr_le hz hc)
theorem ok_name_of (T : Txt P K mg) : FnOk P w K mg base (L2N.CX P w) 4 T.f_name_of T.d_name_of ["literal"] (spLit T.C_BadLiteral fun z => .str (bare z)) := by
  refine T.F_name_of.okN sc_name_of (fun vs H Q E h => ?_) (fun cdv A outer s H vs Q E hr h => ?_)
  · obtain ⟨z, rfl, _⟩ := h
    rfl
  · obtain ⟨z, rfl, hz, hc, q1, q2⟩ := h
    refine ⟨_, (pss_cons (ps_expr (pe_call (ok_check_literal T) (hr.mono (by decide)) rfl T.g_check_literal T.F_check_literal.kp T.b_check_literal .nil (L2N.passes_call (L2N.takes_of rfl rfl rfl rfl) (fun _ _ _ _ h => h)) (pa_cons (pv 0) pa_nil)))
      (pss_one (ps_ret (pe_bm PySem.F.plainAttrs_str PySem.F.slot_str_removeprefix PySem.F.type_str_removeprefix mt_removeprefix (pv 0) (pa_cons pe_str pa_nil))))), ?_⟩
    refine ⟨_, rfl, z, rfl, hz, hc, fun hl H1 e1 => ?_, q2⟩
    exact Evl.s_ret (rv_rp (Evl.ev_var rfl) (by omega)) fun H2 e2 => q1 hl H2 (e1.trans e2)
theorem ok_is_positive (T : Txt P K mg) : FnOk P w K mg base (L2N.CX P w) 5 T.f_is_positive T.d_is_positive ["literal"] (spLit T.C_BadLiteral fun z => .bl (!dash z)) := by
  refine T.F_is_positive.okN sc_is_positive (fun vs H Q E h => ?_) (fun cdv A outer s H vs Q E hr h => ?_)
  · obtain ⟨z, rfl, _⟩ := h
    rfl
  · obtain ⟨z, rfl, hz, hc, q1, q2⟩ := h
    refine ⟨_, (pss_one (ps_ret (pe_cmpR op_eq (pe_call (ok_name_of T) (hr.mono (by decide)) rfl T.g_name_of T.F_name_of.kp T.b_name_of .nil (L2N.passes_call (L2N.takes_of rfl rfl rfl rfl) (fun _ _ _ _ h => h)) (pa_cons (pv 0) pa_nil)) (pv 0) (nomark _)))), ?_⟩
    refine ⟨_, rfl, z, rfl, hz, hc, fun hl H1 e1 => ⟨_, rfl, rfl, ?_⟩, q2⟩
    have e : decide (V.str (bare z) = V.str z) = !dash z := by
      rw [← bare_same z]
      exact decide_eq_decide.mpr ⟨fun x => V.str.inj x, fun x => congrArg V.str x⟩
    rw [e]
    exact q1 hl H1 e1
theorem ok_negated (T : Txt P K mg) : FnOk P w K mg base (L2N.CX P w) 6 T.f_negated T.d_negated ["literal"] (spLit T.C_BadLiteral fun z => .str (flip z)) := by
  refine T.F_negated.okN sc_negated (fun vs H Q E h => ?_) (fun cdv A outer s H vs Q E hr h => ?_)
  · obtain ⟨z, rfl, _⟩ := h
    rfl
  · obtain ⟨z, rfl, hz, hc, q1, q2⟩ := h
    refine ⟨_, (pss_cons (ps_if (pt_val (pe_call (ok_is_positive T) (hr.mono (by decide)) rfl T.g_is_positive T.F_is_positive.kp T.b_is_positive .nil (L2N.passes_call (L2N.takes_of rfl rfl rfl rfl) (fun _ _ _ _ h => h)) (pa_cons (pv 0) pa_nil))) (pss_one (ps_ret (pe_joined (.cons pe_str (.cons (pe_fmt (pv 0)) .nil))))) pss_nil)
      (pss_one (ps_ret (pe_call (ok_name_of T) (hr.mono (by decide)) rfl T.g_name_of T.F_name_of.kp T.b_name_of .nil (L2N.passes_call (L2N.takes_of rfl rfl rfl rfl) (fun _ _ _ _ h => h)) (pa_cons (pv 0) pa_nil))))), ?_⟩
    refine ⟨_, rfl, z, rfl, hz, hc, fun hl H1 e1 => ⟨_, rfl, ?_⟩, q2⟩
    cases hd : dash z with
    | true =>
      refine iteF ?_
      refine ⟨_, rfl, z, rfl, hz, hc, fun hl2 H2 e2 => ?_, fun hl2 => by rw [hl] at hl2; cases hl2⟩
      have z3 : Q (.str (flip z)) H2 := q1 hl H2 (e1.trans e2)
      rw [flip_dash hd] at z3
      exact z3
    | false =>
      refine iteT ?_
      have zl : z.length ≤ 50 := hz
      have l1 : (Str.empty ++ ("-" : Str)).length ≤ sizeLine := line_of (by decide)
      have l2 : (Str.empty ++ ("-" : Str) ++ z).length ≤ sizeLine := line_of (Nat.le_trans (app_le (n := 1) (m := 50) (by decide) hz) (by decide))
      refine ⟨"-", rfl, l1, _, rfl, .inl ⟨z, rfl, line_of (by omega), z, rfl, l2, ?_⟩⟩
      have z2 : Q (.str (flip z)) H1 := q1 hl H1 e1
      rw [flip_no hd] at z2
      exact z2
/-! ### the law's own -/
def spPure (g : Str → V) : Sp := fun vs H Q _ => ∃ z : Str, vs = [.str z] ∧ z.cps.size ≤ 50 ∧ ∀ H', Evl.Ex H H' → Q (g z) H'
open Evl in
theorem ev_sl1 {H : Hp} {te : TE} {σ : L2.St} {z : Str} (h : Ev te σ H (.str z)) (hz : z.cps.size ≤ 1000) : Ev (tSl rSlS te tNoPart (tPart (tC (.int 1)))) σ H (.str (cutS z none (some 1))) := fun H1 e Q q =>
  h H1 e _ fun H2 e2 => ⟨1, rfl, z, rfl, sz_of (by show z.cps.size ≤ _; omega), q H2 e2⟩
open Evl in
theorem ev_sl1n {H : Hp} {te : TE} {σ : L2.St} {z : Str} (h : Ev te σ H (.str z)) (hz : z.cps.size ≤ 1000) : Ev (tSl rSlS te (tPart (tC (.int 1))) tNoPart) σ H (.str (cutS z (some 1) none)) := fun H1 e Q q =>
  h H1 e _ fun H2 e2 => ⟨1, rfl, z, rfl, sz_of (by show z.cps.size ≤ _; omega), q H2 e2⟩
open Evl in
theorem ok__law_name (T : Txt P K mg) : FnOk P w K mg base CX0 1 T.f__law_name T.d__law_name ["_law_literal"] (spPure fun z => .str (bare z)) := by
  refine T.F__law_name.ok sc__law_name (fun vs H Q E h => ?_) (fun cdv A outer s H vs Q E hr h => ?_)
  · obtain ⟨z, rfl, _⟩ := h
    rfl
  · obtain ⟨z, rfl, hz, q⟩ := h
    refine ⟨_, (pss_cons (ps_if (pt_cmpR op_eq (pe_slice sl_str (pv 0) po_none (po_some pe_int)) pe_str (nomark _)) (pss_one (ps_ret (pe_slice sl_str (pv 0) (po_some pe_int) po_none))) pss_nil)
      (pss_one (ps_ret (pv 0)))), ?_⟩
    refine q_when (b := dash z) (et_test (ev_is (ev_op (ev_sl1 (ev_var rfl) (by omega)) ev_c (rv_eq rfl)) (by rw [dash_cut]))) (fun hd H1 e1 => ?_) (fun hd H1 e1 => ?_)
    · refine s_ret (ev_is (w := .str (bare z)) (ev_sl1n (ev_var rfl) (by omega)) (by rw [bare_cut hd])) fun H2 e2 => q H2 (e1.trans e2)
    · refine s_ret (ev_is (v := .str z) (w := .str (bare z)) (ev_var rfl) (by rw [bare_no hd])) fun H2 e2 => q H2 (e1.trans e2)
open Evl in
theorem ok__law_flip (T : Txt P K mg) : FnOk P w K mg base CX0 1 T.f__law_flip T.d__law_flip ["_law_literal"] (spPure fun z => .str (flip z)) := by
  refine T.F__law_flip.ok sc__law_flip (fun vs H Q E h => ?_) (fun cdv A outer s H vs Q E hr h => ?_)
  · obtain ⟨z, rfl, _⟩ := h
    rfl
  · obtain ⟨z, rfl, hz, q⟩ := h
    refine ⟨_, (pss_cons (ps_if (pt_cmpR op_eq (pe_slice sl_str (pv 0) po_none (po_some pe_int)) pe_str (nomark _)) (pss_one (ps_ret (pe_slice sl_str (pv 0) (po_some pe_int) po_none))) pss_nil)
      (pss_one (ps_ret (pe_op op_add_str pe_str (pv 0))))), ?_⟩
    refine q_when (b := dash z) (et_test (ev_is (ev_op (ev_sl1 (ev_var rfl) (by omega)) ev_c (rv_eq rfl)) (by rw [dash_cut]))) (fun hd H1 e1 => ?_) (fun hd H1 e1 => ?_)
    · refine s_ret (ev_is (w := .str (flip z)) (ev_sl1n (ev_var rfl) (by omega)) ?_) fun H2 e2 => q H2 (e1.trans e2)
      rw [bare_cut hd, flip_dash hd]
    · refine s_ret (ev_is (v := .str ("-" ++ z)) (w := .str (flip z)) (ev_op (y := .str z) ev_c (ev_var rfl) (fun H2 _ Q q => ⟨"-", z, rfl, rfl, ?_, q H2 (Ex.refl H2)⟩)) ?_) fun H2 e2 => q H2 (e1.trans e2)
      · have h1 : ("-" : Str).length = 1 := by decide
        have h2 : z.length = z.cps.size := rfl
        exact line_of (by omega)
      · rw [flip_no hd]
/-! ### texts in order -/
def leS (a b : Str) : Prop := a.cps.toList ≤ b.cps.toList
theorem leS_of {a b : Str} (h : ltCps b.cps.toList a.cps.toList = false) : leS a b := by
  rw [ltCps_eq] at h
  exact of_decide_eq_false h
theorem leS_trans {a b c : Str} (x : leS a b) (y : leS b c) : leS a c := List.le_trans x y
theorem leS_anti {a b : Str} (x : leS a b) (y : leS b a) : a = b := str_eq (List.le_antisymm x y)
theorem pw_rising : ∀ (p : Str) (l : List Str), risingS p l = true → (p :: l).Pairwise leS
  | p, [], _ => List.pairwise_singleton _ _
  | p, x :: r, h => by
    have h2 : (!ltCps x.cps.toList p.cps.toList && risingS x r) = true := h
    rw [Bool.and_eq_true, Bool.not_eq_true'] at h2
    have t := pw_rising x r h2.2
    refine List.pairwise_cons.mpr ⟨fun y hy => ?_, t⟩
    have px := leS_of h2.1
    rcases List.mem_cons.mp hy with e | hy
    · rw [e]; exact px
    · exact leS_trans px ((List.pairwise_cons.mp t).1 y hy)
theorem pw_sorted : ∀ (l : List Str), sortedS l = true → l.Pairwise leS
  | [], _ => .nil
  | x :: r, h => pw_rising x r h
/-- in order, one way alone -/
theorem same_order : ∀ {l m : List Str}, l.Pairwise leS → m.Pairwise leS → l.Perm m → l = m
  | [], m, _, _, p => (List.Perm.eq_nil p.symm).symm
  | x :: l, [], _, _, p => absurd p.length_eq (by simp)
  | x :: l, y :: m, a, b, p => by
    obtain ⟨a1, a2⟩ := List.pairwise_cons.mp a
    obtain ⟨b1, b2⟩ := List.pairwise_cons.mp b
    have e : x = y := by
      rcases List.mem_cons.mp (p.mem_iff.mp List.mem_cons_self) with e | hx
      · exact e
      · rcases List.mem_cons.mp (p.mem_iff.mpr List.mem_cons_self) with e | hy
        · exact e.symm
        · exact leS_anti (a1 y hy) (b1 x hx)
    subst e
    rw [same_order a2 b2 ((List.perm_cons _).mp p)]
theorem perm_len_le : ∀ {l m : List Str}, l.Nodup → (∀ x ∈ l, x ∈ m) → l.length ≤ m.length
  | [], m, _, _ => Nat.zero_le _
  | x :: l, m, nd, sub => by
    obtain ⟨n1, n2⟩ := List.nodup_cons.mp nd
    have pe := List.perm_cons_erase (sub x List.mem_cons_self)
    have z := perm_len_le (m := m.erase x) n2 fun y hy => (List.mem_erase_of_ne (fun (e : y = x) => n1 (by rw [← e]; exact hy))).mpr (sub y (List.mem_cons_of_mem _ hy))
    have q := pe.length_eq
    simp only [List.length_cons] at q ⊢
    omega
/-- the names of the texts L, each once, in order -/
structure Ord (L N : List Str) : Prop where
  pw : N.Pairwise leS
  nd : N.Nodup
  mem : ∀ x, x ∈ N ↔ x ∈ L
theorem Ord.uniq {L L' N N' : List Str} (a : Ord L N) (b : Ord L' N') (h : ∀ x, x ∈ L ↔ x ∈ L') : N = N' := by
  have sub : ∀ x, x ∈ N ↔ x ∈ N' := fun x => by rw [a.mem, b.mem, h]
  exact same_order a.pw b.pw (perm_of_sub a.nd (fun x hx => (sub x).mp hx) (perm_len_le b.nd fun x hx => (sub x).mpr hx))
/-- a sorted list's texts, each once -/
def dd : List Str → List Str → List Str
  | acc, [] => acc
  | acc, x :: r => if x ∈ acc then dd acc r else dd (acc ++ [x]) r
theorem dd_spec : ∀ (l acc : List Str), acc.Nodup → (acc ++ l).Pairwise leS → (dd acc l).Pairwise leS ∧ (dd acc l).Nodup ∧ ∀ x, x ∈ dd acc l ↔ x ∈ acc ∨ x ∈ l
  | [], acc, nd, pw => ⟨by rw [List.append_nil] at pw; exact pw, nd, fun x => by simp [dd]⟩
  | y :: r, acc, nd, pw => by
    unfold dd
    by_cases h : y ∈ acc
    · rw [if_pos h]
      have pw2 : (acc ++ r).Pairwise leS := pw.sublist (List.Sublist.append (List.Sublist.refl _) (List.sublist_cons_self _ _))
      obtain ⟨a, b, c⟩ := dd_spec r acc nd pw2
      refine ⟨a, b, fun x => ?_⟩
      rw [c x, List.mem_cons]
      constructor
      · rintro (z | z)
        · exact .inl z
        · exact .inr (.inr z)
      · rintro (z | z | z)
        · exact .inl z
        · exact .inl (z ▸ h)
        · exact .inr z
    · rw [if_neg h]
      have pw2 : ((acc ++ [y]) ++ r).Pairwise leS := by rw [List.append_assoc]; exact pw
      have nd2 : (acc ++ [y]).Nodup := by
        rw [List.nodup_append]
        exact ⟨nd, by simp, fun a ha b hb e => h (by rw [List.mem_singleton] at hb; rw [← hb, ← e]; exact ha)⟩
      obtain ⟨a, b, c⟩ := dd_spec r (acc ++ [y]) nd2 pw2
      refine ⟨a, b, fun x => ?_⟩
      rw [c x, List.mem_append, List.mem_singleton, List.mem_cons, or_assoc]
theorem dd_step (acc : List Str) (l : List Str) (y : Str) : dd acc (l ++ [y]) = if y ∈ dd acc l then dd acc l else dd acc l ++ [y] := by
  induction l generalizing acc with
  | nil => by_cases h : y ∈ acc <;> simp [dd, h]
  | cons x r ih =>
    show dd acc (x :: (r ++ [y])) = _
    unfold dd
    split
    · exact ih acc
    · exact ih _
theorem dd_ord {L ys : List Str} (p : ys.Perm L) (h : sortedS ys = true) : Ord L (dd [] ys) := by
  obtain ⟨a, b, c⟩ := dd_spec ys [] .nil (pw_sorted ys h)
  exact ⟨a, b, fun x => by rw [c x, p.mem_iff]; simp⟩
theorem srt_ord {L ss : List Str} (p : ss.Perm (putL L)) (h : sortedS ss = true) : Ord L ss :=
  ⟨pw_sorted ss h, p.nodup_iff.mpr (putL_nd L), fun x => by rw [p.mem_iff, putL_mem]⟩
/-- both signs of a name, those that are in L -/
def pick (L : List Str) (n : Str) : List Str := [n, "-" ++ n].filter fun z => decide (z ∈ L)
def due (L N : List Str) : List Str := N.flatMap (pick L)
section
open Evl
/-- [e for y in a list for x in a tuple that y gives] -/
theorem el_lc2 {σ : L2.St} {H : Hp} {a : Addr} {ys : List V} {tl tu te : TE} {j j1 : Nat} {vs vs1 : List Nat} (f : V → List V) (h : Ev tl σ H (.ref a)) (hx : SqL K H a ys) (hz : (ys.flatMap f).length ≤ 40000) (hw : ∀ x, wipe ((wipe σ vs).set j (some x)) vs = wipe σ vs)
    (hw1 : ∀ y x, wipe ((wipe ((wipe σ vs).set j (some y)) vs1).set j1 (some x)) vs1 = wipe ((wipe σ vs).set j (some y)) vs1) (hi : ∀ y ∈ ys, ∀ H1, Ex H H1 → EvU tu ((wipe σ vs).set j (some y)) H1 (f y))
    (he : ∀ y ∈ ys, ∀ x ∈ f y, ∀ H1, Ex H H1 → Ev te ((wipe ((wipe σ vs).set j (some y)) vs1).set j1 (some x)) H1 x) : EvL (tLc2 (iList K tl) (gName j) tYes (iTup K tu) (gName j1) tYes te vs vs1) σ H (ys.flatMap f) := fun H0 e Q q => h H0 e _ fun H1 e1 => by
  have hx1 := ex_l (e.trans e1) hx
  refine ⟨a, rfl, ⟨ys, hx1⟩, fun D hD => ?_⟩
  have P : ∃ P : Nat → Hp → Prop, P = fun i H' => Ex H1 H' ∧ H' D = some (.lst ((ys.take i).flatMap f)) := ⟨_, rfl⟩
  obtain ⟨P, hP⟩ := P
  refine ⟨fun i m H' => m = ys.length - i ∧ i ≤ ys.length ∧ P i H', ⟨_, rfl, Nat.zero_le _, by rw [hP]; exact ⟨Ex.new hD, upd_same⟩⟩, ?_⟩
  rintro i m H2 ⟨rfl, hi', p⟩
  have pp := p
  rw [hP] at pp
  obtain ⟨p1, p2⟩ := pp
  by_cases lt : i < ys.length
  · refine .inr ⟨⟨ys, ys[i], ex_l p1 hx1, by simp [lt]⟩, P (i + 1), fun H' z => ⟨ys.length - (i + 1), by omega, rfl, lt, z⟩, fun y H3 z => ?_⟩
    obtain ⟨rfl, z⟩ := z
    have hy : ys[i]? = some y := z ys (ex_l p1 hx1)
    have my : y ∈ ys := List.mem_of_getElem? hy
    refine ⟨hw y, ?_⟩
    unfold tYes
    dsimp only
    rw [if_pos rfl]
    refine hi y my _ ((e.trans e1).trans p1) _ (Ex.refl _) _ fun t H4 nt e4 ht => ⟨t, rfl, ⟨f y, st_of ht⟩, ?_⟩
    have nD : t ≠ D := fun z => by rw [z, p2] at nt; cases nt
    refine ⟨fun k m H' => m = (f y).length - k ∧ k ≤ (f y).length ∧ Ex H1 H' ∧ H' t = some (.tup (f y)) ∧ H' D = some (.lst ((ys.take i).flatMap f ++ (f y).take k)), ⟨_, rfl, Nat.zero_le _, p1.trans e4, ht, by rw [List.take_zero, List.append_nil]; exact e4 _ _ p2⟩, ?_⟩
    rintro k m H5 ⟨rfl, hk, r1, r2, r3⟩
    have small : ((ys.take i).flatMap f).length + (f y).length ≤ 40000 := by
      have z1 : ys = ys.take i ++ y :: ys.drop (i + 1) := by
        have z2 : ys.drop i = y :: ys.drop (i + 1) := by
          rw [List.drop_eq_getElem_cons lt]
          have z3 := (List.getElem?_eq_some_iff.mp hy).2
          rw [z3]
        rw [← z2, List.take_append_drop]
      have z4 : ys.flatMap f = (ys.take i).flatMap f ++ (f y ++ (ys.drop (i + 1)).flatMap f) := by
        have z5 := congrArg (List.flatMap f) z1
        rw [List.flatMap_append, List.flatMap_cons] at z5
        exact z5
      rw [z4, List.length_append, List.length_append] at hz
      omega
    by_cases lk : k < (f y).length
    · refine .inr ⟨⟨f y, (f y)[k], st_of r2, by simp [lk]⟩, fun H' => k + 1 ≤ (f y).length ∧ Ex H1 H' ∧ H' t = some (.tup (f y)) ∧ H' D = some (.lst ((ys.take i).flatMap f ++ (f y).take (k + 1))), fun H' z => ⟨(f y).length - (k + 1), by omega, rfl, z⟩, fun x H6 z => ?_⟩
      obtain ⟨rfl, z⟩ := z
      have hxk : (f y)[k]? = some x := z (f y) (st_of r2)
      refine ⟨hw1 y x, ?_⟩
      dsimp only
      rw [if_pos rfl]
      refine he y my x (List.mem_of_getElem? hxk) _ ((e.trans e1).trans r1) _ (Ex.refl _) _ fun H7 e7 => ⟨_, e7 _ _ r3, ?_, lk, Ex.mut (r1.trans e7) hD, ?_, ?_⟩
      · rw [List.length_append]
        exact sz_lt (by have := List.length_take_le k (f y); omega)
      · rw [upd_ne nD]; exact e7 _ _ r2
      · rw [upd_same, List.take_add_one, hxk, List.append_assoc] <;> rfl
    · have ek : k = (f y).length := by omega
      refine .inl ⟨⟨f y, st_of r2, by omega⟩, ?_⟩
      rw [hP]
      refine ⟨r1, ?_⟩
      rw [r3, ek, List.take_length, List.take_add_one, hy, List.flatMap_append] <;> simp
  · have ei : i = ys.length := by omega
    refine .inl ⟨⟨ys, ex_l p1 hx1, by omega⟩, ?_⟩
    rw [ei, List.take_length] at p2
    exact q D H2 (fresh_back e1 hD) (e1.trans p1) p2
end
/-! ### both_signs, in_order -/
def twoOf (n : Str) : List Str := [n, "-" ++ n]
def twoV : V → List V
  | .str n => [.str n, .str ("-" ++ n)]
  | _ => []
theorem two_map : ∀ ns : List Str, (ns.map V.str).flatMap twoV = (ns.flatMap twoOf).map V.str
  | [] => rfl
  | n :: r => by
    rw [List.map_cons, List.flatMap_cons, List.flatMap_cons, List.map_append, two_map r]
    rfl
theorem two_len (ns : List Str) : (ns.flatMap twoOf).length = 2 * ns.length := by
  induction ns with
  | nil => rfl
  | cons n r ih => rw [List.flatMap_cons, List.length_append, ih, List.length_cons]; show 2 + 2 * r.length = _; omega
open Evl in
theorem ev_minus {σ : L2.St} {H : Hp} {j : Nat} {z : Str} (h : σ[j]? = some (some (.str z))) (hz : z.cps.size ≤ 50) : Ev (fun σ H Q => tJs [tC (.str "-"), tFmt (tVar j)] Str.empty σ H fun out H1 => Q (.str out) H1) σ H (.str ("-" ++ z)) := fun H1 e Q q => by
  have zl : z.length ≤ 50 := hz
  have l1 : (Str.empty ++ ("-" : Str)).length ≤ sizeLine := line_of (by decide)
  have l2 : (Str.empty ++ ("-" : Str) ++ z).length ≤ sizeLine := line_of (Nat.le_trans (app_le (n := 1) (m := 50) (by decide) hz) (by decide))
  exact ⟨"-", rfl, l1, _, h, .inl ⟨z, rfl, line_of (by omega), z, rfl, l2, q H1 (Ex.refl H1)⟩⟩
def spBoth : Sp := fun vs H Q _ => ∃ (a : Addr) (ns : List Str), vs = [.ref a] ∧ H a = some (.lst (ns.map V.str)) ∧ ns.length ≤ 200 ∧ (∀ z ∈ ns, z.cps.size ≤ 50) ∧ Evl.RetL ((ns.flatMap twoOf).map V.str) H Q
open Evl in
theorem ok_both_signs (T : Txt P K mg) : FnOk P w K mg base CX0 1 T.f_both_signs T.d_both_signs ["names"] spBoth := by
  refine T.F_both_signs.ok sc_both_signs (fun vs H Q E h => ?_) (fun cdv A outer s H vs Q E hr h => ?_)
  · obtain ⟨a, ns, rfl, _⟩ := h
    rfl
  · obtain ⟨a, ns, rfl, ha, few, short, q⟩ := h
    refine ⟨_, (pss_one (ps_ret (pe_lc2 (own := [("name", 1), ("literal", 2)]) (vs1 := [2]) (wi1 := iTup K (tTup (tCons (tVar 1) (tCons (fun σ H Q => tJs [tC (.str "-"), tFmt (tVar 1)] Str.empty σ H fun out H1 => Q (.str out) H1) tNil)))) (g := gName 1) (g1 := gName 2) (by rfl) sc_both_signs.nd (pi_list (pv 0)) (blkOk_by (own := [("name", 1), ("literal", 2)]) (N := N_both_signs) (sc := defScope s_both_signs) (by decide +kernel)) (by decide)
      (fun _ _ _ _ _ => pg_name (i := 1) sc_both_signs.nd rfl (Or.inl rfl)) (fun _ _ _ _ _ => pts_nil) (fun _ _ _ _ _ => pi_tup (pe_tup (pa_cons (pv 1) (pa_cons (pe_joined (.cons pe_str (.cons (pe_fmt (pv 1)) .nil))) pa_nil))))
      (fun _ _ _ _ _ => pg_name (i := 2) sc_both_signs.nd rfl (Or.inl rfl)) (fun _ _ _ _ _ => pts_nil) (fun _ _ _ _ _ => (pv 2))))), ?_⟩
    refine s_retL (xs := (ns.map V.str).flatMap twoV) (el_lc2 (K := K) (ys := ns.map V.str) twoV (ev_var rfl) (sq_of ha) ?_ (fun _ => rfl) (fun _ _ => rfl) (fun y hy H1 e1 => ?_) (fun y hy x hx H1 e1 => ev_var rfl)) (fun p H1 np e1 hp => q p H1 np e1 (by rw [hp, two_map]))
    · rw [two_map, List.length_map, two_len]; omega
    · obtain ⟨n, hn, rfl⟩ := List.mem_map.mp hy
      exact eu_tup (ea_cons (ev_var rfl) (ea_cons (ev_minus rfl (short n hn)) ea_nil)) (show 2 ≤ 100000 by decide)
theorem in_map {z : Str} {L : List Str} : inV (.str z) (L.map V.str) = decide (z ∈ L) := by
  unfold inV
  rw [List.any_map]
  induction L with
  | nil => rfl
  | cons y r ih =>
    rw [List.any_cons, ih]
    have e : (eqV (V.str y) (V.str z)) = decide (z = y) := by
      by_cases h : z = y
      · subst h; simp [eqV]
      · simp [eqV, h, Ne.symm h]
    show (eqV (V.str y) (V.str z) || decide (z ∈ r)) = _
    rw [e]
    by_cases h1 : z = y <;> by_cases h2 : z ∈ r <;> simp [h1, h2]
theorem flat_str (L : List Str) : (L.map V.str).all flatV = true := flat_strs L
open Evl in
theorem ev_niStr {σ : L2.St} {H : Hp} {ta tb : TE} {z : Str} {p : Addr} {L : List Str} (ha : Ev ta σ H (.str z)) (hb : Ev tb σ H (.ref p)) (hp : H p = some (.lst (L.map V.str))) : Ev (tOp (rIn K true) ta tb) σ H (.bl (!decide (z ∈ L))) :=
  ev_is (ev_op ha hb (rv_niL (sq_of hp) rfl (flat_str L))) (by rw [in_map])
theorem pick_all (L N : List Str) : (N.flatMap twoOf).filter (fun z => decide (z ∈ L)) = due L N := by
  unfold due
  induction N with
  | nil => rfl
  | cons n r ih =>
    rw [List.flatMap_cons, List.flatMap_cons, List.filter_append, ih]
    rfl
open Evl in
theorem ev_inStrT {σ : L2.St} {H : Hp} {ta tb : TE} {z : Str} {p : Addr} {L : List Str} (ha : Ev ta σ H (.str z)) (hb : Ev tb σ H (.ref p)) (hp : H p = some (.tup (L.map V.str))) : Ev (tOp (rIn K false) ta tb) σ H (.bl (decide (z ∈ L))) :=
  ev_is (ev_op ha hb (rv_isT (st_of hp) rfl (flat_str L))) (by rw [in_map])
/-- in_order(literals), literals a tuple -/
def spOrderT (C : Addr) : Sp := fun vs H Q E => ∃ (a : Addr) (L : List Str), vs = [.ref a] ∧ H a = some (.tup (L.map V.str)) ∧ L.length ≤ 100 ∧ (∀ z ∈ L, z.cps.size ≤ 50 ∧ ∀ c ∈ z.cps.toList, c < 128) ∧
  ((∀ z ∈ L, isLit z = true) → ∀ N, Ord (L.map bare) N → Evl.RetL ((due L N).map V.str) H Q) ∧
  (∀ pre z post, L = pre ++ z :: post → (∀ y ∈ pre, isLit y = true) → isLit z = false → ∀ H' d, Evl.Ex H H' → H' d = some (.xd [("text", .str z)]) → E (.ref C) (some d) H')
open Evl in
theorem okT_in_order (T : Txt P K mg) : FnOk P w K mg base (L2N.CX P w) 5 T.f_in_order T.d_in_order ["literals"] (spOrderT T.C_BadLiteral) := by
  refine T.F_in_order.okN sc_in_order (fun vs H Q E h => ?_) (fun cdv A outer s H vs Q E hr h => ?_)
  · obtain ⟨a, L, rfl, _⟩ := h
    rfl
  · obtain ⟨a, L, rfl, ha, few, short, good, bad⟩ := h
    refine ⟨_, (pss_cons (ps_setLcE (i := 1) (own := [("literal", 2)]) (g := gName 2) rfl rfl (L2N.takes_of rfl rfl rfl rfl) (by rfl) sc_in_order.nd rfl rfl (sw_true rfl rfl rfl (by decide +kernel)) (pi_tup (pv 0)) (blkOk_by (own := [("literal", 2)]) (N := N_in_order) (sc := defScope s_in_order) (by decide +kernel))
      (fun _ _ _ _ _ _ _ => pg_name (i := 2) sc_in_order.nd rfl (Or.inl rfl)) (fun _ _ _ _ _ _ _ => pts_nil) (fun _ _ _ _ _ _ pass => (pe_call (ok_name_of T) (hr.mono (by decide)) rfl T.g_name_of T.F_name_of.kp T.b_name_of .nil pass (pa_cons (pv 2) pa_nil))))
      (pss_one (ps_ret (pe_lc (own := [("literal", 2)]) (g := gName 2) (tt := tTest (tOp (rIn K false) (tVar 2) (tVar 0))) (by rfl) sc_in_order.nd (pi_list (pe_call (ok_both_signs T) (hr.mono (by decide)) rfl T.g_both_signs T.F_both_signs.kp T.b_both_signs .nil pass0 (pa_cons (pe_callB (cr_srtS rfl) (by rfl) T.n_sorted (by decide +kernel) (pa_cons (pe_callTy (cr_setS rfl) (by rfl) T.n_set (by decide +kernel) (pa_cons (pv 1) pa_nil)) pa_nil)) pa_nil))) (blkOk_by (own := [("literal", 2)]) (N := N_in_order) (sc := defScope s_in_order) (by decide +kernel)) (fun _ _ _ _ _ => pg_name (i := 2) sc_in_order.nd rfl (Or.inl rfl)) (fun _ _ _ _ _ => (pts_one (pt_cmpR op_in_seq (pv 2) (pv 0) (by rfl)))) (fun _ _ _ _ _ => (pv 2)))))), ?_⟩
    have len8 : ∀ z ∈ L, (bare z).cps.size ≤ 50 := fun z hz => Nat.le_trans (bare_len z) (short z hz).1
    refine ⟨_, rfl, a, rfl, ⟨_, st_of ha⟩, fun D nD => lc_tup (K := K) (xs := L.map V.str) (fun i H' => Ex (upd H D (.lst [])) (upd H' D (.lst [])) ∧ H' D = some (.lst (((L.take i).map bare).map V.str)) ∧ ∀ z ∈ L.take i, isLit z = true) ⟨by rw [upd_upd]; exact Ex.refl _, upd_same, fun z hz => by simp at hz⟩ ?keep ?step ?done⟩
    case keep =>
      rintro i H1 hi ⟨e1, _, _⟩
      refine st_of ?_
      have z := e1 a _ (by rw [upd_ne (ne_of_none ha nD)]; exact ha)
      rw [upd_ne (ne_of_none ha nD)] at z
      exact z
    case step =>
      rintro i x H1 hx ⟨e1, h1, yes⟩
      obtain ⟨z, hz, rfl⟩ : ∃ z, L[i]? = some z ∧ V.str z = x := by
        rw [List.getElem?_map] at hx
        cases e : L[i]? with
        | none => rw [e] at hx; cases hx
        | some z => rw [e] at hx; exact ⟨z, rfl, Option.some.inj hx⟩
      have mz : z ∈ L := List.mem_of_getElem? hz
      refine ⟨rfl, ?_⟩
      unfold tYes
      dsimp only
      rw [if_pos rfl]
      refine ⟨_, rfl, z, rfl, (short z mz).1, (short z mz).2, fun hl H2 e2 => ⟨_, e2 _ _ h1, ?_, ?_, ?_, ?_⟩, fun hl H2 d e2 hd => ?_⟩
      · rw [List.length_map, List.length_map]
        exact sz_lt (by have := List.length_take_le' i L; omega)
      · rw [upd_upd]
        intro b o hb
        by_cases hbD : b = D
        · rw [hbD, upd_same] at hb
          rw [hbD, upd_same]; exact hb
        · have z1 := e1 b o hb
          rw [upd_ne hbD] at z1 ⊢
          exact e2 b o z1
      · rw [upd_same, List.take_add_one, hz, List.map_append, List.map_append]
        rfl
      · intro y hy
        rw [List.take_add_one, hz] at hy
        rcases List.mem_append.mp hy with h | h
        · exact yes y h
        · have e : y = z := by simpa using h
          rw [e]; exact hl
      · refine bad (L.take i) z (L.drop (i + 1)) ?_ yes hl H2 d (fun b o hb => ?_) hd
        · have lt := (List.getElem?_eq_some_iff.mp hz).1
          have q := (List.getElem?_eq_some_iff.mp hz).2
          have z2 : L.drop i = z :: L.drop (i + 1) := by rw [List.drop_eq_getElem_cons lt, q]
          rw [← z2, List.take_append_drop]
        · have nb : b ≠ D := ne_of_none hb nD
          have z1 := e1 b o (by rw [upd_ne nb]; exact hb)
          rw [upd_ne nb] at z1
          exact e2 b o z1
    case done =>
      rintro H1 ⟨e1, h1, yes⟩
      rw [List.length_map, List.take_length] at h1 yes
      have eH : Ex H H1 := fun b o hb => by
        have nb : b ≠ D := ne_of_none hb nD
        have z1 := e1 b o (by rw [upd_ne nb]; exact hb)
        rw [upd_ne nb] at z1
        exact z1
      have cnt : (L.map bare).length ≤ 100 := by rw [List.length_map]; exact few
      refine ⟨_, rfl, D, L.map bare, rfl, sq_of h1, by omega, fun p np => ⟨p, putL (L.map bare), rfl, upd_same, putL_nd _, by have := putL_len (L.map bare); omega, fun ss r pm so nr => ?_⟩⟩
      have od := srt_ord pm so
      have snum : ss.length ≤ 100 := by rw [pm.length_eq]; have := putL_len (L.map bare); omega
      have shorts : ∀ z ∈ ss, z.cps.size ≤ 50 := fun z hz => by
        obtain ⟨y, hy, rfl⟩ := List.mem_map.mp ((od.mem z).mp hz)
        exact len8 y hy
      refine ⟨r, ss, rfl, upd_same, by omega, shorts, fun b H2 nb e2 hb => ?_⟩
      have e3 : Ex H1 H2 := (Ex.new np).trans ((Ex.new nr).trans e2)
      refine ⟨b, rfl, ⟨_, sq_of hb⟩, fun D2 nD2 => lc_list (K := K) (xs := (ss.flatMap twoOf).map V.str) (fun i H' => Ex H2 H' ∧ H' D2 = some (.lst ((((ss.flatMap twoOf).take i).filter fun z => decide (z ∈ L)).map V.str))) ⟨Ex.new nD2, upd_same⟩ (fun i H' _ p => ex_l p.1 (sq_of hb)) ?_ ?_⟩
      · rintro i x H3 hx ⟨q1, q2⟩
        obtain ⟨z, hz, rfl⟩ : ∃ z, (ss.flatMap twoOf)[i]? = some z ∧ V.str z = x := by
          rw [List.getElem?_map] at hx
          cases e : (ss.flatMap twoOf)[i]? with
          | none => rw [e] at hx; cases hx
          | some z => rw [e] at hx; exact ⟨z, rfl, Option.some.inj hx⟩
        refine ⟨rfl, ?_⟩
        have ha3 : H3 a = some (.tup (L.map V.str)) := q1 _ _ (e3 _ _ (eH _ _ ha))
        refine et_test (ev_inStrT (ev_var rfl) (ev_var rfl) ha3) H3 (Ex.refl _) _ fun H4 e4 => ?_
        by_cases m : z ∈ L
        · rw [decide_eq_true m, if_pos rfl]
          refine ⟨_, rfl, _, e4 _ _ q2, ?_, Ex.mut (q1.trans e4) nD2, ?_⟩
          · rw [List.length_map]
            refine sz_lt ?_
            have l1 := List.length_filter_le (fun z => decide (z ∈ L)) ((ss.flatMap twoOf).take i)
            have l2 := List.length_take_le' i (ss.flatMap twoOf)
            rw [two_len] at l2
            omega
          · rw [upd_same, List.take_add_one, hz]
            simp [m]
        · rw [decide_eq_false m, if_neg (by decide)]
          refine ⟨q1.trans e4, ?_⟩
          rw [e4 _ _ q2, List.take_add_one, hz]
          simp [m]
      · rintro H3 ⟨q1, q2⟩
        rw [List.length_map, List.take_length, pick_all] at q2
        exact good yes ss od D2 H3 (fresh_back (eH.trans e3) nD2) ((eH.trans e3).trans q1) q2
/-! ### drawn words and names -/
theorem app_codes (x y : Str) : (x ++ y).cps.toList = x.cps.toList ++ y.cps.toList := Array.toList_append ..
theorem sg_codes (c : Nat) : (⟨#[c]⟩ : Str).cps.toList = [c] := rfl
theorem take_min (l : List Nat) (i : Nat) : l.take (min i l.length) = l.take i := by
  rw [← List.take_take, List.take_length]
theorem drop_min (l : List Nat) (i : Nat) : l.drop (min i l.length) = l.drop i := by
  by_cases h : i ≤ l.length
  · rw [Nat.min_eq_left h]
  · rw [Nat.min_eq_right (by omega), List.drop_length, List.drop_eq_nil_of_le (by omega)]
theorem codes_len (z : Str) : z.cps.toList.length = z.length := Array.length_toList
theorem sIx_of (n d : Nat) {i : Int} (h : 0 ≤ i) : HT.sIx n d (some i) = min i.toNat n := by
  obtain ⟨k, rfl⟩ := Int.eq_ofNat_of_zero_le h
  exact HT.sIx_nat n d k
theorem cut_to (z : Str) {i : Int} (h : 0 ≤ i) : (cutS z none (some i)).cps.toList = z.cps.toList.take i.toNat := by
  show ((z.cps.toList.drop (HT.sIx z.length 0 none)).take (HT.sIx z.length z.length (some i) - HT.sIx z.length 0 none)).toArray.toList = _
  rw [sIx_of _ _ h, HT.sIx_none, List.drop_zero, Nat.sub_zero, ← codes_len]
  exact take_min _ _
theorem cut_mid (z : Str) {i j : Int} (h : 0 ≤ i) (h2 : 0 ≤ j) : (cutS z (some i) (some j)).cps.toList = (z.cps.toList.drop i.toNat).take (j.toNat - i.toNat) := by
  show ((z.cps.toList.drop (HT.sIx z.length 0 (some i))).take (HT.sIx z.length z.length (some j) - HT.sIx z.length 0 (some i))).toArray.toList = _
  rw [sIx_of _ _ h, sIx_of _ _ h2, ← codes_len, drop_min]
  show List.take _ _ = _
  have e := take_min (z.cps.toList.drop i.toNat) (j.toNat - i.toNat)
  rw [← e, List.length_drop]
  by_cases c : i.toNat ≤ z.cps.toList.length
  · have q : min j.toNat z.cps.toList.length - min i.toNat z.cps.toList.length = min (j.toNat - i.toNat) (z.cps.toList.length - i.toNat) := by omega
    rw [q]
  · rw [List.drop_eq_nil_of_le (by omega), List.take_nil, List.take_nil]
theorem cut_fr (z : Str) {i : Int} (h : 0 ≤ i) : (cutS z (some i) none).cps.toList = z.cps.toList.drop i.toNat := by
  show ((z.cps.toList.drop (HT.sIx z.length 0 (some i))).take (HT.sIx z.length z.length none - HT.sIx z.length 0 (some i))).toArray.toList = _
  rw [sIx_of _ _ h, HT.sIx_none, ← codes_len, drop_min]
  show List.take _ _ = _
  refine List.take_of_length_le ?_
  rw [List.length_drop]; omega
structure Wd (n : Nat) (z : Str) : Prop where
  len : z.cps.toList.length = n
  head : z.cps.toList.head?.any ltr = true
  all : z.cps.toList.all lod = true
theorem lod_small {c : Nat} (h : lod c = true) : c < 128 := by
  have q : ∀ c ∈ ("abcdefghijklmnopqrstuvwxyz0123456789" : Str).cps.toList, c < 128 := by decide
  exact q c (of_decide_eq_true h)
theorem ltr_lod {c : Nat} (h : ltr c = true) : lod c = true := by rw [lod_eq, h] <;> rfl
theorem Wd.txt {n : Nat} {z : Str} (h : Wd n z) : Txt8 n z := by
  refine ⟨?_, fun c hc => lod_small (List.all_eq_true.mp h.all c hc)⟩
  rw [← Array.length_toList, h.len]
  exact Nat.le_refl _
theorem Wd.push {n : Nat} {z : Str} {c : Nat} (h : Wd n z) (hn : 1 ≤ n) (hc : lod c = true) : Wd (n + 1) (z ++ ⟨#[c]⟩) := by
  have e := app_codes z ⟨#[c]⟩
  rw [sg_codes] at e
  refine ⟨?_, ?_, ?_⟩
  · rw [e, List.length_append, h.len] <;> rfl
  · rw [e]
    cases q : z.cps.toList with
    | nil => have z1 := h.len; rw [q] at z1; simp at z1; omega
    | cons x r => have z1 := h.head; rw [q] at z1; exact z1
  · rw [e, List.all_append, h.all]
    simp [hc]
theorem Wd.one {c : Nat} (h : ltr c = true) : Wd 1 ⟨#[c]⟩ := ⟨rfl, by rw [sg_codes]; exact h, by rw [sg_codes]; simp [ltr_lod h]⟩
/-- a letter of the alphabet; one of the 36 signs -/
theorem ltr_at {i c : Nat} (h : ("abcdefghijklmnopqrstuvwxyz" : Str).cps[i]? = some c) : ltr c = true := by
  rw [← Array.getElem?_toList] at h
  exact decide_eq_true (List.mem_of_getElem? h)
theorem lod_at {i c : Nat} (h : ("0123456789abcdefghijklmnopqrstuvwxyz" : Str).cps[i]? = some c) : lod c = true := by
  rw [← Array.getElem?_toList] at h
  have q : ∀ c ∈ ("0123456789abcdefghijklmnopqrstuvwxyz" : Str).cps.toList, lod c = true := by decide
  exact q c (List.mem_of_getElem? h)
theorem nm_of {l1 l2 : List Nat} {c : Nat} {z : Str} (e : z.cps.toList = l1 ++ [c] ++ l2) (h1 : l1 = [] ∨ l1.head?.any ltr = true) (a1 : l1.all lod = true) (a2 : l2.all lod = true) (hc : ltr c = true) (len : l1.length + 1 + l2.length ≤ 8) : isName z = true := by
  unfold isName nameL
  rw [e]
  have ln : (l1 ++ [c] ++ l2).length = l1.length + 1 + l2.length := by rw [List.length_append, List.length_append] <;> rfl
  rw [ln, decide_eq_true (show 1 ≤ l1.length + 1 + l2.length by omega), decide_eq_true len]
  have hd : (l1 ++ [c] ++ l2).head?.any ltr = true := by
    cases l1 with
    | nil => exact hc
    | cons x r => rcases h1 with h | h
                  · cases h
                  · exact h
  have al : (l1 ++ [c] ++ l2).all lod = true := by
    rw [List.all_append, List.all_append, a1, a2]
    simp [ltr_lod hc]
  rw [hd, al]
  rfl
theorem all_take {l : List Nat} (h : l.all lod = true) (n : Nat) : (l.take n).all lod = true := List.all_eq_true.mpr fun c hc => List.all_eq_true.mp h c (List.mem_of_mem_take hc)
theorem all_drop {l : List Nat} (h : l.all lod = true) (n : Nat) : (l.drop n).all lod = true := List.all_eq_true.mpr fun c hc => List.all_eq_true.mp h c (List.mem_of_mem_drop hc)
theorem head_take {l : List Nat} (h : l.head?.any ltr = true) (n : Nat) : l.take n = [] ∨ (l.take n).head?.any ltr = true := by
  cases n with
  | zero => exact .inl List.take_zero
  | succ n => cases l with
    | nil => exact .inl List.take_nil
    | cons x r => exact .inr h
theorem name_len {z : Str} (h : isName z = true) : 1 ≤ z.cps.toList.length ∧ z.cps.toList.length ≤ 8 ∧ z.cps.toList.head?.any ltr = true ∧ z.cps.toList.all lod = true := by
  unfold isName nameL at h
  simp only [Bool.and_eq_true, decide_eq_true_eq] at h
  exact ⟨h.1, h.2.1, h.2.2.1, h.2.2.2⟩
theorem name_txt {z : Str} (h : isName z = true) : Txt8 8 z := by
  obtain ⟨_, h8, _, al⟩ := name_len h
  refine ⟨?_, fun c hc => lod_small (List.all_eq_true.mp al c hc)⟩
  rw [← Array.length_toList]; exact h8
/-- _law_word(source, size) -/
def spWordL : Sp := fun vs H Q _ => ∃ (a l : Addr) (ns : List Int) (n : Int), vs = [.ref a, .int n] ∧ SrcL H a l ns ∧ 1 ≤ n ∧ n ≤ 8 ∧ ∀ H' z, Wd n.toNat z → SrcL H' a l ns → But a H H' → Q (.str z) H'
theorem okL__law_word (T : Txt P K mg) : FnOk P w K mg base CX0 2 T.f__law_word T.d__law_word ["_law_source_here", "_law_size"] spWordL := by
  refine T.F__law_word.ok sc__law_word (fun vs H Q E h => ?_) (fun cdv A outer s H vs Q E hr h => ?_)
  · obtain ⟨a, l, ns, n, rfl, _⟩ := h
    rfl
  · obtain ⟨a, l, ns, n, rfl, S, h1, h8, q⟩ := h
    refine ⟨_, (pss_cons (ps_set (i := 2) sc__law_word.nd rfl (.inl rfl) pe_str)
      (pss_cons (ps_set (i := 3) sc__law_word.nd rfl (.inl rfl) pe_str)
      (pss_cons (ps_set (i := 4) sc__law_word.nd rfl (.inl rfl) (pe_item_str (pv 2) (pe_call (okL__law_take T) (hr.mono (by decide)) rfl T.g__law_take T.F__law_take.kp T.b__law_take .nil pass0 (pa_cons (pv 0) (pa_cons pe_int pa_nil))) (fun _ _ => rfl)))
      (pss_cons (ps_set (i := 5) sc__law_word.nd rfl (.inl rfl) (pe_call (okL__law_take T) (hr.mono (by decide)) rfl T.g__law_take T.F__law_take.kp T.b__law_take .nil pass0 (pa_cons (pv 0) (pa_cons (pe_op op_pow pe_int pe_int) pa_nil))))
      (pss_cons (ps_for PassesOwn.never rfl (pi_range1 rfl T.n_range (pa_cons (pe_op op_sub (pv 1) pe_int) pa_nil)) (pg_name (i := 6) sc__law_word.nd rfl (.inl rfl)) (pss_cons (ps_set (i := 4) sc__law_word.nd rfl (.inl rfl) (pe_op op_add_str (pv 4) (pe_item_str (pv 3) (pe_op op_modN (pe_callTy call_int1 (by rfl) T.n_int (by decide +kernel) (pa_cons (pv 5) pa_nil)) pe_int) (fun _ _ => rfl))))
      (pss_one (ps_set (i := 5) sc__law_word.nd rfl (.inl rfl) (pe_op op_fdivW (pv 5) pe_int)))))
      (pss_one (ps_ret (pv 4)))))))), ?_⟩
    refine ⟨_, rfl, .ref a, rfl, a, 26, l, ns, rfl, S, by decide, by decide, fun H1 r r0 r1 S1 B1 => ?_⟩
    obtain ⟨c, hc, hl, tc⟩ := item_of (z := "abcdefghijklmnopqrstuvwxyz") r0 r1 (by decide) (by decide)
    refine ⟨_, _, c, rfl, rfl, r0, by omega, hl, hc, .ref a, rfl, _, _, rfl, rfl, ⟨by decide, by decide, by decide⟩, a, _, l, ns, rfl, S1, by decide, by decide, fun H2 r2 r20 r21 S2 B2 => ?_⟩
    refine ⟨_, rfl, _, _, rfl, rfl, n - 1, rfl, by omega, by omega, for_range (lo := 0) (n := (n - 1).toNat) (fun i σ H' => ∃ (z : Str) (y : Int) (v : Option V), σ = [some (.ref a), some (.int n), some (.str "abcdefghijklmnopqrstuvwxyz"), some (.str "0123456789abcdefghijklmnopqrstuvwxyz"), some (.str z), some (.int y), v] ∧ Wd (i + 1) z ∧ H' = H2) ⟨_, _, _, rfl, Wd.one (ltr_at hc), rfl⟩ ?_ ?_⟩
    · rintro i σ H' hi ⟨z, y, v, rfl, tz, rfl⟩
      obtain ⟨c2, hc2, hl2, tc2⟩ := item_of (z := "0123456789abcdefghijklmnopqrstuvwxyz") (fmod_lo y (m := 36) (by decide)) (fmod_hi y (m := 36) (by decide)) (by decide) (by decide)
      have f1 := fmod_lo y (m := 36) (by decide)
      have f2 := fmod_hi y (m := 36) (by decide)
      refine ⟨_, rfl, _, rfl, _, rfl, .inl ⟨_, rfl, _, _, rfl, rfl, (show (36 : Int) ≠ 0 by decide), _, _, c2, rfl, rfl, f1, by omega, hl2, hc2, _, _, rfl, rfl, line_of (by have h1 := tz.txt.1; have h2 : z.length = z.cps.size := rfl; show z.length + 1 ≤ 1000; omega), ?_⟩⟩
      refine ⟨_, rfl, _, _, rfl, rfl, wide_div (b := 64) (by decide) (by decide) (by decide) (by decide), ?_⟩
      exact ⟨_, _, _, rfl, tz.push (by omega) (lod_at hc2), rfl⟩
    · rintro σ H' ⟨z, y, v, rfl, tz, rfl⟩
      have e : (n - 1).toNat + 1 = n.toNat := by omega
      rw [e] at tz
      exact ⟨_, rfl, q _ z tz S2 (B1.trans B2)⟩
theorem srl_put {H : Hp} {u l0 l : Addr} {ns : List Int} {o : HO} (S : SrcL H u l0 ns) (h1 : l ≠ u) (h2 : l ≠ l0) : SrcL (upd H l o) u l0 ns := by
  obtain ⟨⟨i, x, k, m, h0, h⟩, hl⟩ := S
  exact ⟨⟨i, x, k, m, h0, by rw [upd_ne h1.symm]; exact h⟩, by rw [upd_ne h2.symm]; exact hl⟩
theorem srl_ex {H H' : Hp} {u l0 : Addr} {ns : List Int} (S : SrcL H u l0 ns) (e : Evl.Ex H H') : SrcL H' u l0 ns := by
  obtain ⟨⟨i, x, k, m, h0, h⟩, hl⟩ := S
  exact ⟨⟨i, x, k, m, h0, e _ _ h⟩, e _ _ hl⟩
theorem srl_at {H : Hp} {u l0 : Addr} {ns : List Int} (S : SrcL H u l0 ns) : ∃ o, H u = some o := let ⟨⟨_, _, _, _, _, h⟩, _⟩ := S; ⟨_, h⟩
theorem srl_off {H : Hp} {u l0 p : Addr} {ns : List Int} (S : SrcL H u l0 ns) (hp : H p = none) : p ≠ u ∧ p ≠ l0 := by
  obtain ⟨⟨i, x, k, m, h0, h⟩, hl⟩ := S
  exact ⟨fun e => (by rw [e, h] at hp; cases hp), fun e => (by rw [e, hl] at hp; cases hp)⟩
theorem srl_new {H : Hp} {u l0 p : Addr} {ns : List Int} {o : HO} (S : SrcL H u l0 ns) (hp : H p = none) : SrcL (upd H p o) u l0 ns := srl_put S (srl_off S hp).1 (srl_off S hp).2
theorem But.upd2 {a p : Addr} {H H1 : Hp} {o : HO} (x : But a H H1) (hp : H p = none) : But a H (L2.upd H1 p o) := fun b u n h => by
  rw [upd_ne (ne_of_none h hp)]
  exact x b u n h
theorem But.fresh {a p : Addr} {H H1 : Hp} (x : But a H H1) (S : ∃ o, H a = some o) (hp : H1 p = none) (hpa : p ≠ a) : H p = none := by
  cases e : H p with
  | none => rfl
  | some o => have z := x p o hpa e; rw [hp] at z; cases z
/-- the letter at a place of the alphabet -/
def abc (i : Int) : Option Nat := ("abcdefghijklmnopqrstuvwxyz" : Str).cps[(Int.fmod i 26).toNat]?
theorem abc_inj : ∀ i j : Fin 26, ("abcdefghijklmnopqrstuvwxyz" : Str).cps[i.val]? = ("abcdefghijklmnopqrstuvwxyz" : Str).cps[j.val]? → i = j := by decide +kernel
theorem abc_eq {i j : Int} (h : abc i = abc j) : i % 26 = j % 26 := by
  unfold abc at h
  have e1 : Int.fmod i 26 = i % 26 := Int.fmod_eq_emod_of_nonneg i (by decide)
  have e2 : Int.fmod j 26 = j % 26 := Int.fmod_eq_emod_of_nonneg j (by decide)
  rw [e1, e2] at h
  have z := abc_inj ⟨(i % 26).toNat, by omega⟩ ⟨(j % 26).toNat, by omega⟩ h
  have y := congrArg Fin.val z
  dsimp only at y
  omega
/-- different letters at one place -/
theorem apart_names {nms : List Str} {pos : Nat} {sh pc : Int} (many : nms.length ≤ 26) (hp : pc = 1 ∨ pc = 5 ∨ pc = 7 ∨ pc = 25) (h : ∀ (j : Nat) (hj : j < nms.length), (nms[j]).cps.toList[pos]? = abc (sh + pc * (j : Int))) : nms.Nodup := by
  rw [List.Nodup, List.pairwise_iff_getElem]
  intro i j hi hj lt e
  have a := h i hi
  have b := h j hj
  rw [e, b] at a
  have z := abc_eq a
  rcases hp with rfl | rfl | rfl | rfl <;> omega
theorem mid_at {l1 l2 : List Nat} {c k : Nat} (h : l1.length = k) : (l1 ++ (⟨#[c]⟩ : Str).cps.toList ++ l2)[k]? = some c := by
  subst h
  show (l1 ++ [c] ++ l2)[l1.length]? = some c
  rw [List.append_assoc, List.getElem?_append_right (Nat.le_refl _), Nat.sub_self]
  rfl
theorem len_codes (z : Str) : (z.length : Nat) = z.cps.toList.length := (codes_len z).symm
/-- _law_names(source, many) -/
def spNamesL : Sp := fun vs H Q _ => ∃ (a l : Addr) (ns : List Int) (many : Int), vs = [.ref a, .int many] ∧ SrcL H a l ns ∧ 1 ≤ many ∧ many ≤ 26 ∧ ∀ (H' : Hp) (p : Addr) (nms : List Str), H p = none → SrcL H' a l ns → But a H H' → H' p = some (.lst (nms.map V.str)) → nms.length = many.toNat → (∀ z ∈ nms, isName z = true) → nms.Nodup → Q (.ref p) H'
theorem ok__law_names (T : Txt P K mg) : FnOk P w K mg base CX0 3 T.f__law_names T.d__law_names ["_law_source_here", "_law_many"] spNamesL := by
  refine T.F__law_names.ok sc__law_names (fun vs H Q E h => ?_) (fun cdv A outer s H vs Q E hr h => ?_)
  · obtain ⟨a, l, ns, many, rfl, _⟩ := h
    rfl
  · obtain ⟨a, l, ns, many, rfl, S, m1, m14, q⟩ := h
    refine ⟨_, (pss_cons (ps_set (i := 2) sc__law_names.nd rfl (.inl rfl) pe_str)
      (pss_cons (ps_set (i := 3) sc__law_names.nd rfl (.inl rfl) (pe_call (okL__law_take T) (hr.mono (by decide)) rfl T.g__law_take T.F__law_take.kp T.b__law_take .nil pass0 (pa_cons (pv 0) (pa_cons pe_int pa_nil))))
      (pss_cons (ps_set (i := 4) sc__law_names.nd rfl (.inl rfl) (pe_op op_add pe_int (pe_call (okL__law_take T) (hr.mono (by decide)) rfl T.g__law_take T.F__law_take.kp T.b__law_take .nil pass0 (pa_cons (pv 0) (pa_cons pe_int pa_nil)))))
      (pss_cons (ps_set (i := 5) sc__law_names.nd rfl (.inl rfl) (pe_call (okL__law_take T) (hr.mono (by decide)) rfl T.g__law_take T.F__law_take.kp T.b__law_take .nil pass0 (pa_cons (pv 0) (pa_cons (pv 4) pa_nil))))
      (pss_cons (ps_set (i := 6) sc__law_names.nd rfl (.inl rfl) (pe_call (okL__law_word T) (hr.mono (by decide)) rfl T.g__law_word T.F__law_word.kp T.b__law_word .nil pass0 (pa_cons (pv 0) (pa_cons (pv 4) pa_nil))))
      (pss_cons (ps_set (i := 7) sc__law_names.nd rfl (.inl rfl) (pe_call (okL__law_take T) (hr.mono (by decide)) rfl T.g__law_take T.F__law_take.kp T.b__law_take .nil pass0 (pa_cons (pv 0) (pa_cons pe_int pa_nil))))
      (pss_cons (ps_set (i := 8) sc__law_names.nd rfl (.inl rfl) (pe_ix ix_list (pe_lst (pa_cons pe_int (pa_cons pe_int (pa_cons pe_int (pa_cons pe_int pa_nil))))) (pe_call (okL__law_take T) (hr.mono (by decide)) rfl T.g__law_take T.F__law_take.kp T.b__law_take .nil pass0 (pa_cons (pv 0) (pa_cons pe_int pa_nil))) (fun _ _ => rfl)))
      (pss_cons (ps_set (i := 9) sc__law_names.nd rfl (.inl rfl) (pe_lst pa_nil))
      (pss_cons (ps_for PassesOwn.never rfl (pi_range1 rfl T.n_range (pa_cons (pv 1) pa_nil)) (pg_name (i := 10) sc__law_names.nd rfl (.inl rfl)) (pss_cons (ps_set (i := 11) sc__law_names.nd rfl (.inl rfl) (pe_item_str (pv 2) (pe_op op_modN (pe_callTy call_int1 (by rfl) T.n_int (by decide +kernel) (pa_cons (pe_op op_add (pv 7) (pe_op op_mul (pv 8) (pv 10))) pa_nil)) pe_int) (fun _ _ => rfl)))
      (pss_one (ps_if (pt_cmpR op_eq (pv 3) pe_int (nomark _)) (pss_one (ps_expr (pe_bm PySem.F.plainAttrs_list PySem.F.slot_list_append PySem.F.type_list_append mt_append (pv 9) (pa_cons (pe_op op_add_str (pe_op op_add_str (pe_slice sl_str (pv 6) po_none (po_some (pv 5))) (pv 11)) (pe_slice sl_str (pv 6) (po_some (pe_op op_add (pv 5) pe_int)) po_none)) pa_nil)))) (pss_one (ps_if (pt_cmpR op_eq (pv 3) pe_int (nomark _)) (pss_one (ps_expr (pe_bm PySem.F.plainAttrs_list PySem.F.slot_list_append PySem.F.type_list_append mt_append (pv 9) (pa_cons (pe_op op_add_str (pv 11) (pe_slice sl_str (pv 6) (po_some pe_int) (po_some (pe_op op_add pe_int (pe_call (okL__law_take T) (hr.mono (by decide)) rfl T.g__law_take T.F__law_take.kp T.b__law_take .nil pass0 (pa_cons (pv 0) (pa_cons pe_int pa_nil))))))) pa_nil)))) (pss_one (ps_expr (pe_bm PySem.F.plainAttrs_list PySem.F.slot_list_append PySem.F.type_list_append mt_append (pv 9) (pa_cons (pe_op op_add_str (pe_op op_add_str (pe_slice sl_str (pv 6) po_none (po_some (pv 5))) (pv 11)) (pe_slice sl_str (pe_call (okL__law_word T) (hr.mono (by decide)) rfl T.g__law_word T.F__law_word.kp T.b__law_word .nil pass0 (pa_cons (pv 0) (pa_cons (pe_op op_sub pe_int (pv 5)) pa_nil))) po_none (po_some (pe_call (okL__law_take T) (hr.mono (by decide)) rfl T.g__law_take T.F__law_take.kp T.b__law_take .nil pass0 (pa_cons (pv 0) (pa_cons (pe_op op_sub pe_int (pv 5)) pa_nil)))))) pa_nil))))))))))
      (pss_one (ps_ret (pv 9)))))))))))), ?_⟩
    refine ⟨.ref a, rfl, a, 3, l, ns, rfl, S, by decide, by decide, fun H1 st st0 st1 S1 B1 => ?_⟩
    refine ⟨.ref a, rfl, a, 8, l, ns, rfl, S1, by decide, by decide, fun H2 n n0 n1 S2 B2 => ⟨_, _, rfl, rfl, ?_⟩⟩
    refine ⟨.ref a, rfl, _, rfl, a, 1 + n, l, ns, rfl, S2, by omega, by omega, fun H3 at_ t0 t1 S3 B3 => ?_⟩
    refine ⟨.ref a, rfl, _, rfl, a, l, ns, 1 + n, rfl, S3, by omega, by omega, fun H4 bs wb S4 B4 => ?_⟩
    refine ⟨.ref a, rfl, a, 26, l, ns, rfl, S4, by decide, by decide, fun H5 sh sh0 sh1 S5 B5 => ?_⟩
    refine ⟨(by show 4 ≤ sizeLine; decide), fun p0 hp0 => ⟨.ref a, rfl, a, 4, l, ns, rfl, srl_new S5 hp0, by decide, by decide, fun H6 r r0 r1 S6 B6 => ?_⟩⟩
    have B05 : But a H H5 := (((B1.trans B2).trans B3).trans B4).trans B5
    have hp06 : H6 p0 = some (.lst [.int 1, .int 5, .int 7, .int 25]) := B6 p0 _ (srl_off S5 hp0).1 upd_same
    obtain ⟨pc, hpc, pc0, pc1, pc4⟩ : ∃ pc : Int, ([V.int 1, .int 5, .int 7, .int 25] : List V)[r.toNat]? = some (.int pc) ∧ 0 ≤ pc ∧ pc ≤ 25 ∧ (pc = 1 ∨ pc = 5 ∨ pc = 7 ∨ pc = 25) := by
      have h2 : r = 0 ∨ r = 1 ∨ r = 2 ∨ r = 3 := by omega
      rcases h2 with rfl | rfl | rfl | rfl
      · exact ⟨1, rfl, by decide, by decide, by decide⟩
      · exact ⟨5, rfl, by decide, by decide, by decide⟩
      · exact ⟨7, rfl, by decide, by decide, by decide⟩
      · exact ⟨25, rfl, by decide, by decide, by decide⟩
    have B06 : But a H H6 := B05.trans fun b o n e => B6 b o n (by rw [upd_ne (ne_of_none e hp0)]; exact e)
    refine ⟨p0, _, r, _, rfl, rfl, SqL.of hp06, at_of (by omega) hpc, ?_⟩
    refine ⟨(by show 0 ≤ sizeLine; decide), fun p np => ?_⟩
    have offp := srl_off S6 np
    have np0 : H p = none := B06.fresh (srl_at S) np offp.1
    have wl : bs.cps.toList.length = (1 + n).toNat := wb.len
    have wt := wb.txt
    have wz : bs.length ≤ 8 := by rw [len_codes, wl]; omega
    refine ⟨_, rfl, many, rfl, by omega, by omega, for_range (lo := 0) (n := many.toNat) (fun i σ H' => ∃ (nms : List Str) (v10 v11 : Option V), σ = [some (.ref a), some (.int many), some (.str "abcdefghijklmnopqrstuvwxyz"), some (.int st), some (.int (1 + n)), some (.int at_), some (.str bs), some (.int sh), some (.int pc), some (.ref p), v10, v11] ∧
      SrcL H' a l ns ∧ But a H H' ∧ H' p = some (.lst (nms.map V.str)) ∧ nms.length = i ∧ (∀ z ∈ nms, isName z = true) ∧ ∀ (j : Nat) (hj : j < nms.length), (nms[j]).cps.toList[(if st = 1 then 0 else at_.toNat)]? = abc (sh + pc * (j : Int))) ⟨[], _, _, rfl, srl_new S6 np, B06.upd2 np0, upd_same, rfl, (fun z hz => (by cases hz)), fun j hj => absurd hj (by simp)⟩ ?_ ?_⟩
    · rintro i σ H7 hi ⟨nms, v10, v11, rfl, S7, B7, h7, cnt, ok, key⟩
      obtain ⟨c, hc, hl, tc⟩ := item_of (z := "abcdefghijklmnopqrstuvwxyz") (fmod_lo (sh + pc * (0 + (i : Int))) (m := 26) (by decide)) (fmod_hi (sh + pc * (0 + (i : Int))) (m := 26) (by decide)) (by decide) (by decide)
      have f1 := fmod_lo (sh + pc * (0 + (i : Int))) (m := 26) (by decide)
      have f2 := fmod_hi (sh + pc * (0 + (i : Int))) (m := 26) (by decide)
      have lc := ltr_at hc
      refine ⟨_, rfl, _, rfl, _, rfl, _, rfl, _, _, rfl, rfl, .inl ⟨by omega, by omega⟩, _, _, rfl, rfl, .inl ⟨_, rfl, _, _, rfl, rfl, (show (26 : Int) ≠ 0 by decide), _, _, c, rfl, rfl, f1, by omega, hl, hc, ?_⟩⟩
      -- the end of a turn
      have fin : ∀ H8 (z : Str), SrcL H8 a l ns → But a H H8 → H8 p = some (.lst (nms.map V.str)) → isName z = true → z.cps.toList[(if st = 1 then 0 else at_.toNat)]? = some c → ∃ (nms' : List Str) (v10 v11 : Option V), [some (V.ref a), some (.int many), some (.str "abcdefghijklmnopqrstuvwxyz"), some (.int st), some (.int (1 + n)), some (.int at_), some (.str bs), some (.int sh), some (.int pc), some (.ref p), some (V.int (0 + (i : Int))), some (V.str ⟨#[c]⟩)] = [some (.ref a), some (.int many), some (.str "abcdefghijklmnopqrstuvwxyz"), some (.int st), some (.int (1 + n)), some (.int at_), some (.str bs), some (.int sh), some (.int pc), some (.ref p), v10, v11] ∧
          SrcL (upd H8 p (.lst (nms.map V.str ++ [.str z]))) a l ns ∧ But a H (upd H8 p (.lst (nms.map V.str ++ [.str z]))) ∧ (upd H8 p (.lst (nms.map V.str ++ [.str z]))) p = some (.lst (nms'.map V.str)) ∧ nms'.length = i + 1 ∧ (∀ z ∈ nms', isName z = true) ∧ ∀ (j : Nat) (hj : j < nms'.length), (nms'[j]).cps.toList[(if st = 1 then 0 else at_.toNat)]? = abc (sh + pc * (j : Int)) :=
        fun H8 z S8 B8 h8 hz hk => ⟨nms ++ [z], _, _, rfl, srl_put S8 offp.1 offp.2, B8.upd2 np0, by rw [upd_same, List.map_append] <;> rfl, by rw [List.length_append, cnt] <;> rfl, (fun y hy => by
          rcases List.mem_append.mp hy with h | h
          · exact ok y h
          · have e : y = z := by simpa using h
            rw [e]; exact hz), fun j hj => by
          by_cases c1 : j < nms.length
          · rw [List.getElem_append_left c1]; exact key j c1
          · rw [List.length_append, List.length_singleton] at hj
            have e : j = i := by omega
            subst e
            rw [List.getElem_append_right (by omega)]
            simp only [cnt, Nat.sub_self, List.getElem_singleton]
            rw [hk, ← hc]
            unfold abc
            rw [Int.zero_add]⟩
      have few : (nms.map V.str).length < sizeLine := by rw [List.length_map, cnt]; exact Evl.sz_lt (by omega)
      refine ⟨_, rfl, rfl, _, rfl, ite2 (fun e => ?_) (fun e => ?_)⟩
      · refine ⟨.ref p, rfl, Or.inl ⟨rfl, _, SqL.of h7⟩, ?_⟩
        refine ⟨_, rfl, _, rfl, _, rfl, _, rfl, line_of (by omega), _, rfl, _, _, rfl, rfl, line_of ?_, _, rfl, _, rfl, _, _, rfl, rfl, _, rfl, _, rfl, line_of (by omega), _, _, rfl, rfl, line_of ?_, ?_⟩
        · have := len_codes (cutS bs none (some at_)); have := congrArg List.length (cut_to bs t0); rw [List.length_take] at this; show _ + 1 ≤ _; omega
        · have := len_codes (cutS bs none (some at_) ++ ⟨#[c]⟩); have e1 := congrArg List.length (app_codes (cutS bs none (some at_)) ⟨#[c]⟩); rw [List.length_append, cut_to bs t0, List.length_take] at e1
          have := len_codes (cutS bs (some (at_ + 1)) none); have e2 := congrArg List.length (cut_fr bs (i := at_ + 1) (by omega)); rw [List.length_drop] at e2
          have e3 : (⟨#[c]⟩ : Str).cps.toList.length = 1 := rfl
          omega
        · refine ⟨p, _, _, rfl, rfl, h7, few, fin H7 _ S7 B7 h7 ?_ ?_⟩
          · refine nm_of (l1 := bs.cps.toList.take at_.toNat) (l2 := bs.cps.toList.drop (at_ + 1).toNat) (c := c) ?_ (head_take wb.head _) (all_take wb.all _) (all_drop wb.all _) lc ?_
            · rw [app_codes, app_codes, cut_to bs t0, cut_fr bs (by omega)] <;> rfl
            · rw [List.length_take, List.length_drop]; omega
          · have st0 : st = 0 := V.int.inj (of_decide_eq_true e)
            rw [if_neg (by omega), app_codes, app_codes, cut_to bs t0]
            exact mid_at (by rw [List.length_take]; omega)
      · refine ⟨_, rfl, rfl, _, rfl, ite2 (fun e2 => ?_) (fun e2 => ?_)⟩
        · refine ⟨.ref p, rfl, Or.inl ⟨rfl, _, SqL.of h7⟩, ?_⟩
          refine ⟨_, rfl, _, rfl, 1, rfl, .ref a, rfl, a, 8, l, ns, rfl, S7, by decide, by decide, fun H8 tt t0' t1' S8 B8 => ⟨_, _, rfl, rfl, _, rfl, bs, rfl, line_of (by omega), _, _, rfl, rfl, line_of ?_, ?_⟩⟩
          · have := len_codes (cutS bs (some 1) (some (1 + tt))); have e3 := congrArg List.length (cut_mid bs (i := 1) (j := 1 + tt) (by decide) (by omega)); rw [List.length_take, List.length_drop] at e3
            show 1 + _ ≤ _; omega
          · refine ⟨p, _, _, rfl, rfl, B8 p _ offp.1 h7, few, fin H8 _ S8 (B7.trans B8) (B8 p _ offp.1 h7) ?_ ?_⟩
            · refine nm_of (l1 := []) (l2 := (bs.cps.toList.drop (1 : Int).toNat).take ((1 + tt).toNat - (1 : Int).toNat)) (c := c) ?_ (.inl rfl) rfl (all_take (all_drop wb.all _) _) lc ?_
              · rw [app_codes, cut_mid bs (by decide) (by omega)] <;> rfl
              · rw [List.length_take, List.length_drop]; show 0 + 1 + _ ≤ _; omega
            · rw [if_pos (V.int.inj (of_decide_eq_true e2)), app_codes]
              rfl
        · refine ⟨.ref p, rfl, Or.inl ⟨rfl, _, SqL.of h7⟩, ?_⟩
          refine ⟨_, rfl, _, rfl, _, rfl, _, rfl, line_of (by omega), _, rfl, _, _, rfl, rfl, line_of ?_, .ref a, rfl, _, rfl, _, _, rfl, rfl, a, l, ns, 8 - at_, rfl, S7, by omega, by omega, fun H8 wd ww S8 B8 => ?_⟩
          · have := len_codes (cutS bs none (some at_)); have := congrArg List.length (cut_to bs t0); rw [List.length_take] at this; show _ + 1 ≤ _; omega
          · have wwl := ww.len
            refine ⟨.ref a, rfl, _, rfl, _, _, rfl, rfl, a, 8 - at_, l, ns, rfl, S8, by omega, by omega, fun H9 tt t0' t1' S9 B9 => ⟨_, rfl, wd, rfl, line_of (by rw [len_codes]; omega), _, _, rfl, rfl, line_of ?_, ?_⟩⟩
            · have := len_codes (cutS bs none (some at_) ++ ⟨#[c]⟩); have e1 := congrArg List.length (app_codes (cutS bs none (some at_)) ⟨#[c]⟩); rw [List.length_append, cut_to bs t0, List.length_take] at e1
              have := len_codes (cutS wd none (some tt)); have e2 := congrArg List.length (cut_to wd t0'); rw [List.length_take] at e2
              have e3 : (⟨#[c]⟩ : Str).cps.toList.length = 1 := rfl
              omega
            · have h9 := B9 p _ offp.1 (B8 p _ offp.1 h7)
              refine ⟨p, _, _, rfl, rfl, h9, few, fin H9 _ S9 ((B7.trans B8).trans B9) h9 ?_ ?_⟩
              · refine nm_of (l1 := bs.cps.toList.take at_.toNat) (l2 := wd.cps.toList.take tt.toNat) (c := c) ?_ (head_take wb.head _) (all_take wb.all _) (all_take ww.all _) lc ?_
                · rw [app_codes, app_codes, cut_to bs t0, cut_to wd t0'] <;> rfl
                · rw [List.length_take, List.length_take]; omega
              · have st1 : st ≠ 1 := fun h => e2 (decide_eq_true (by rw [h]))
                rw [if_neg st1, app_codes, app_codes, cut_to bs t0]
                exact mid_at (by rw [List.length_take]; omega)
    · rintro σ H7 ⟨nms, v10, v11, rfl, S7, B7, h7, cnt, ok, key⟩
      exact ⟨_, rfl, q H7 p nms np0 S7 B7 h7 cnt ok (apart_names (by omega) pc4 key)⟩
section
open Evl
/-- [g(z) for z in a list of texts if p(z)] -/
theorem el_fmS {σ : L2.St} {H : Hp} {a : Addr} {L : List Str} {tl te : TE} {tt : TT} {j : Nat} {vs : List Nat} (p : Str → Bool) (g : Str → Str) (h : Ev tl σ H (.ref a)) (hx : H a = some (.lst (L.map V.str))) (hz : L.length ≤ 40000) (hw : ∀ x, wipe ((wipe σ vs).set j (some x)) vs = wipe σ vs)
    (ht : ∀ z ∈ L, ∀ H1, Ex H H1 → EvT tt ((wipe σ vs).set j (some (.str z))) H1 (p z)) (he : ∀ z ∈ L, p z = true → ∀ H1, Ex H H1 → Ev te ((wipe σ vs).set j (some (.str z))) H1 (.str (g z))) :
    EvL (tLc (iList K tl) (gName j) tt te vs) σ H (((L.filter p).map g).map V.str) := fun H0 e Q q => h H0 e _ fun H1 e1 => by
  have e01 := e.trans e1
  refine ⟨a, rfl, ⟨_, sq_of (e01 _ _ hx)⟩, fun D nD => lc_list (K := K) (xs := L.map V.str) (fun i H' => Ex H1 H' ∧ H' D = some (.lst ((((L.take i).filter p).map g).map V.str))) ⟨Ex.new nD, upd_same⟩ (fun i H' _ x => sq_of (x.1 _ _ (e01 _ _ hx))) ?_ ?_⟩
  · rintro i x H3 hi ⟨q1, q2⟩
    obtain ⟨z, hz', rfl⟩ : ∃ z, L[i]? = some z ∧ V.str z = x := by
      rw [List.getElem?_map] at hi
      cases e : L[i]? with
      | none => rw [e] at hi; cases hi
      | some z => rw [e] at hi; exact ⟨z, rfl, Option.some.inj hi⟩
    have m := List.mem_of_getElem? hz'
    refine ⟨hw _, ?_⟩
    refine ht z m H3 (e01.trans q1) H3 (Ex.refl _) _ fun H4 e4 => ?_
    cases c : p z with
    | true =>
      rw [if_pos rfl]
      refine he z m c H4 ((e01.trans q1).trans e4) H4 (Ex.refl _) _ fun H5 e5 => ⟨_, e5 _ _ (e4 _ _ q2), ?_, Ex.mut ((q1.trans e4).trans e5) nD, ?_⟩
      · rw [List.length_map, List.length_map]
        have l1 := List.length_filter_le p (L.take i)
        have l2 := List.length_take_le' i L
        exact sz_lt (by omega)
      · rw [upd_same, List.take_add_one, hz']
        simp [c]
    | false =>
      rw [if_neg (by decide)]
      refine ⟨q1.trans e4, ?_⟩
      rw [e4 _ _ q2, List.take_add_one, hz']
      simp [c]
  · rintro H3 ⟨q1, q2⟩
    rw [List.length_map, List.take_length] at q2
    exact q D H3 (fresh_back e1 nD) (e1.trans q1) q2
theorem et_yes {σ : L2.St} {H : Hp} : EvT tYes σ H true := fun H1 e Q q => q H1 (Ex.refl H1)
theorem el_mpS {σ : L2.St} {H : Hp} {a : Addr} {L : List Str} {tl te : TE} {j : Nat} {vs : List Nat} (g : Str → Str) (h : Ev tl σ H (.ref a)) (hx : H a = some (.lst (L.map V.str))) (hz : L.length ≤ 40000) (hw : ∀ x, wipe ((wipe σ vs).set j (some x)) vs = wipe σ vs)
    (he : ∀ z ∈ L, ∀ H1, Ex H H1 → Ev te ((wipe σ vs).set j (some (.str z))) H1 (.str (g z))) : EvL (tLc (iList K tl) (gName j) tYes te vs) σ H ((L.map g).map V.str) := by
  have z := el_fmS (K := K) (tt := tYes) (te := te) (fun _ => true) g h hx hz hw (fun _ _ _ _ => et_yes) (fun z m _ => he z m)
  rw [List.filter_eq_self.mpr (fun _ _ => rfl)] at z
  exact z
theorem q_forCBL {te : TE} {r : List V → Hp → VK → Prop} {xs : List V} {g : TG} {tb tz : TS} {D : Ends} {σ : L2.St} {H : Hp} (h : EvL te σ H xs) (k : ∀ p H1, H p = none → Ex H H1 → H1 p = some (.lst xs) → tFor (iList K (fun _ H Q => r [.ref p] H Q)) g tb { D with nx := tz D } σ H1) :
    tSeq (tFor (iList K (tCB r (tCons te tNil))) g tb) tz D σ H := h H (Ex.refl H) _ fun p H1 a b c => k p H1 a b c
/-- _law_sorted(names) -/
def spSorted : Sp := fun vs H Q _ => ∃ (a : Addr) (L : List Str), vs = [.ref a] ∧ H a = some (.lst (L.map V.str)) ∧ L.length ≤ 96 ∧ ∀ N, Ord L N → RetL (N.map V.str) H Q
theorem ok__law_sorted (T : Txt P K mg) : FnOk P w K mg base CX0 1 T.f__law_sorted T.d__law_sorted ["_law_names_here"] spSorted := by
  refine T.F__law_sorted.ok sc__law_sorted (fun vs H Q E h => ?_) (fun cdv A outer s H vs Q E hr h => ?_)
  · obtain ⟨a, L, rfl, _⟩ := h
    rfl
  · obtain ⟨a, L, rfl, ha, few, q⟩ := h
    refine ⟨_, (pss_cons (ps_set (i := 1) sc__law_sorted.nd rfl (.inl rfl) (pe_lst pa_nil))
      (pss_cons (ps_for PassesOwn.never rfl (pi_list (pe_callB cr_sortedSN (by rfl) T.n_sorted (by decide +kernel) (pa_cons (pe_lc (own := [("_law_each", 3)]) (g := gName 3) (by rfl) sc__law_sorted.nd (pi_list (pv 0)) (blkOk_by (own := [("_law_each", 3)]) (N := N__law_sorted) (sc := defScope s__law_sorted) (by decide +kernel)) (fun _ _ _ _ _ => pg_name (i := 3) sc__law_sorted.nd rfl (Or.inl rfl)) (fun _ _ _ _ _ => pts_nil) (fun _ _ _ _ _ => (pe_callTy SkE.call_str_str (by rfl) T.n_str (by decide +kernel) (pa_cons (pv 3) pa_nil)))) pa_nil))) (pg_name (i := 2) sc__law_sorted.nd rfl (.inl rfl)) (pss_one (ps_if (pt_cmpR op_notIn_seq (pv 2) (pv 1) (by rfl)) (pss_one (ps_expr (pe_bm PySem.F.plainAttrs_list PySem.F.slot_list_append PySem.F.type_list_append mt_append (pv 1) (pa_cons (pv 2) pa_nil)))) pss_nil)))
      (pss_one (ps_ret (pv 1))))), ?_⟩
    refine q_asgL (xs := []) (el_lst ea_nil (by decide)) (fun p H0 np e0 hp0 => ?_)
    have ha1 := e0 _ _ ha
    have copy : EvL (tLc (iList K (tVar 0)) (gName 3) tYes (tCB (fun xs H Q => ∃ a, xs = [V.str a] ∧ Q (.str a) H) (tCons (tVar 3) tNil)) [3]) [some (V.ref a), some (.ref p), none, none] H0 ((L.map fun z => z).map V.str) :=
      el_mpS (K := K) (fun z => z) (ev_var rfl) ha1 (by omega) (fun _ => rfl) (fun z m H1 e1 => ev_cb (ea_cons (ev_var rfl) ea_nil) fun H2 e2 Q q => ⟨z, rfl, q H2 (Ex.refl H2)⟩)
    rw [List.map_id'] at copy
    refine q_forCBL copy fun D H1 nD e1 hD => ⟨D, L, rfl, sq_of hD, sz_of (by omega), fun ys r pm so nr => ?_⟩
    have od := dd_ord pm so
    have hp1 : H1 p = some (.lst []) := e1 _ _ hp0
    have rp : r ≠ p := fun z => by rw [z, hp1] at nr; cases nr
    have eH : Ex H (upd H1 r (.lst (ys.map V.str))) := (e0.trans e1).trans (Ex.new nr)
    refine ⟨r, rfl, ⟨_, sq_of upd_same⟩, for_list (K := K) (xs := ys.map V.str) (fun i σ H' => ∃ v2 : Option V, σ = [some (V.ref a), some (.ref p), v2, none] ∧ Ex H H' ∧ H' r = some (.lst (ys.map V.str)) ∧ H' p = some (.lst ((dd [] (ys.take i)).map V.str)))
      ⟨none, rfl, eH, upd_same, by rw [upd_ne rp.symm]; exact hp1⟩ (fun i σ H' _ ⟨_, _, _, h, _⟩ => sq_of h) ?_ ?_⟩
    · rintro i x σ H2 hi ⟨v2, rfl, e2, hr2, hp2⟩
      obtain ⟨z, hz, rfl⟩ : ∃ z, ys[i]? = some z ∧ V.str z = x := by
        rw [List.getElem?_map] at hi
        cases e : ys[i]? with
        | none => rw [e] at hi; cases hi
        | some z => rw [e] at hi; exact ⟨z, rfl, Option.some.inj hi⟩
      have step : dd [] (ys.take (i + 1)) = if z ∈ dd [] (ys.take i) then dd [] (ys.take i) else dd [] (ys.take i) ++ [z] := by
        rw [List.take_add_one, hz]; exact dd_step [] _ z
      have dl : (dd [] (ys.take i)).length ≤ 96 := by
        have so2 := pw_sorted ys so
        obtain ⟨_, nd, mm⟩ := dd_spec (ys.take i) [] .nil (so2.sublist (List.take_sublist i ys))
        have l1 := perm_len_le (m := ys.take i) nd fun x hx => by simpa using (mm x).mp hx
        have l2 := List.length_take_le' i ys
        have l3 := pm.length_eq
        omega
      refine s_when (et_test (ev_niStr (ev_var rfl) (ev_var rfl) hp2)) (fun c H3 e3 => ?_) (fun c H3 e3 => ?_)
      · have c2 : z ∉ dd [] (ys.take i) := by simpa using c
        refine s_app (K := K) (e3 _ _ hp2) (ev_var rfl) (ev_var rfl) (by rw [List.length_map]; omega) fun H4 e4 => ⟨_, rfl, Ex.mut ((e2.trans e3).trans e4) np, ?_, ?_⟩
        · rw [upd_ne rp]; exact e4 _ _ (e3 _ _ hr2)
        · rw [upd_same, step, if_neg c2, List.map_append] <;> rfl
      · have c2 : z ∈ dd [] (ys.take i) := by simpa using c
        exact ⟨_, rfl, e2.trans e3, e3 _ _ hr2, by rw [step, if_pos c2]; exact e3 _ _ hp2⟩
    · rintro σ H2 ⟨v2, rfl, e2, hr2, hp2⟩
      rw [List.length_map, List.take_length] at hp2
      exact ⟨_, rfl, q _ od p H2 np e2 hp2⟩
theorem minus_len {n : Str} (h : n.cps.size ≤ 50) : ("-" : Str).length + n.length ≤ 1000 := by
  have h1 : ("-" : Str).length = 1 := by decide
  have h2 : n.length = n.cps.size := rfl
  omega
theorem due_len {L N : List Str} : (due L N).length ≤ 2 * N.length := by
  have z := List.length_filter_le (fun z => decide (z ∈ L)) (N.flatMap twoOf)
  rw [pick_all, two_len] at z
  exact z
end
theorem name_dash {z : Str} (h : isName z = true) : dash z = false := by
  obtain ⟨_, _, hd, _⟩ := name_len h
  unfold dash dashL
  cases e : z.cps.toList with
  | nil => rfl
  | cons c r =>
    rw [e] at hd
    have z1 : ltr c = true := hd
    cases q : ((c :: r).head? == some 45) with
    | false => rfl
    | true =>
      have e2 : c = 45 := by simpa using q
      rw [e2] at z1
      exact absurd z1 (by decide)
theorem name_lit {z : Str} (h : isName z = true) : isLit z = true := by unfold isLit; rw [bare_no (name_dash h)]; exact h
theorem minus_codes (z : Str) : ("-" ++ z).cps.toList = 45 :: z.cps.toList := by rw [app_codes]; rfl
theorem bare_minus (z : Str) : bare ("-" ++ z) = z := by
  have hd : dash ("-" ++ z) = true := by unfold dash; rw [minus_codes]; rfl
  unfold bare
  rw [if_pos hd, minus_codes]
  rfl
theorem minus_lit {z : Str} (h : isName z = true) : isLit ("-" ++ z) = true := by unfold isLit; rw [bare_minus]; exact h
theorem lit_form {z : Str} : z = bare z ∨ z = "-" ++ bare z := by
  cases h : dash z with
  | false => exact .inl (bare_no h).symm
  | true =>
    refine .inr (str_eq ?_)
    rw [minus_codes]
    unfold bare
    rw [if_pos h]
    show z.cps.toList = 45 :: z.cps.toList.drop 1
    unfold dash dashL at h
    cases e : z.cps.toList with
    | nil => rw [e] at h; cases h
    | cons c r =>
      rw [e] at h
      have e2 : c = 45 := by simpa using h
      rw [e2]
      rfl
theorem due_mem {L N : List Str} (od : Ord (L.map bare) N) (z : Str) : z ∈ due L N ↔ z ∈ L := by
  unfold due pick
  rw [List.mem_flatMap]
  constructor
  · rintro ⟨n, _, h⟩
    exact of_decide_eq_true (List.mem_filter.mp h).2
  · intro h
    refine ⟨bare z, (od.mem _).mpr (List.mem_map.mpr ⟨z, h, rfl⟩), List.mem_filter.mpr ⟨?_, decide_eq_true h⟩⟩
    rcases lit_form (z := z) with e | e
    · rw [← e]; exact List.mem_cons_self
    · exact List.mem_cons_of_mem _ (List.mem_singleton.mpr e)
/-! ### Clause.__init__ -/
/-- the name n stands in L in both signs -/
def bothIn (L : List Str) (n : Str) : Bool := decide (n ∈ L) && decide ("-" ++ n ∈ L)
theorem bare_pick {L : List Str} {n z : Str} (hn : dash n = false) (h : z ∈ pick L n) : bare z = n ∧ z ∈ L := by
  obtain ⟨h1, h2⟩ := List.mem_filter.mp h
  refine ⟨?_, of_decide_eq_true h2⟩
  rcases List.mem_cons.mp h1 with e | e
  · rw [e]; exact bare_no hn
  · rw [List.mem_singleton.mp e]; exact bare_minus n
/-- the first name in both signs, found among the literals -/
theorem find_both {L : List Str} : ∀ {N : List Str}, (∀ n ∈ N, dash n = false) → (due L N).find? (fun z => bothIn L (bare z)) = N.find? (bothIn L)
  | [], _ => rfl
  | n :: r, h => by
    have ih := find_both (L := L) (N := r) fun m hm => h m (List.mem_cons_of_mem _ hm)
    have hd := h n List.mem_cons_self
    show ((n :: r).flatMap (pick L)).find? _ = _
    rw [List.flatMap_cons, List.find?_append, List.find?_cons]
    cases b : bothIn L n with
    | true =>
      have hn : n ∈ L := by unfold bothIn at b; simp at b; exact b.1
      have e : (pick L n).find? (fun z => bothIn L (bare z)) = some n := by
        unfold pick
        rw [List.filter_cons, if_pos (decide_eq_true hn), List.find?_cons, bare_no hd, b]
      rw [e]
      rfl
    | false =>
      have e : (pick L n).find? (fun z => bothIn L (bare z)) = none := List.find?_eq_none.mpr fun z hz => by
        rw [(bare_pick hd hz).1, b]; decide
      rw [e]
      exact ih
theorem flip_in {L : List Str} {z : Str} (hz : z ∈ L) (hd : dash (bare z) = false) : decide (flip z ∈ L) = bothIn L (bare z) := by
  unfold bothIn
  cases h : dash z with
  | false =>
    rw [flip_no h]
    have e := bare_no h
    rw [e]
    simp [hz]
  | true =>
    rw [flip_dash h]
    have e : "-" ++ bare z = z := by
      rcases lit_form (z := z) with q | q
      · rw [← q, h] at hd; cases hd
      · exact q.symm
    rw [e]
    simp [hz]
/-- Clause.__init__(self, *literals) -/
def spCl (C CB CS CT : Addr) : Sp := fun vs H Q E => ∃ (x dx t : Addr) (L : List Str), vs = [.ref x, .ref t] ∧ H x = some (.ins C dx []) ∧ H t = some (.tup (L.map V.str)) ∧ L.length ≤ 30 ∧ (∀ z ∈ L, Txt8 20 z) ∧
  (∀ pre z post, L = pre ++ z :: post → (∀ y ∈ pre, isLit y = true) → isLit z = false → ∀ H' d, Evl.Ex H H' → H' d = some (.xd [("text", .str z)]) → E (.ref CB) (some d) H') ∧
  ((∀ z ∈ L, isLit z = true) → ∀ N, Ord (L.map bare) N →
    (∀ n, N.find? (bothIn L) = some n → ∀ H' d, Evl.Ex H H' → H' d = some (.xd [("name", .str n)]) → E (.ref CS) (some d) H') ∧
    (N.find? (bothIn L) = none → 6 < (due L N).length → ∀ H' d, Evl.Ex H H' → H' d = some (.xd [("limit", .int 6)]) → E (.ref CT) (some d) H') ∧
    (N.find? (bothIn L) = none → (due L N).length ≤ 6 → ∀ H' p, (∀ c o, c ≠ x → H c = some o → H' c = some o) → H p = none → H' x = some (.ins C dx [("literals", .ref p)]) → H' p = some (.tup ((due L N).map V.str)) → Q .non H'))
theorem lit_bare {z : Str} (h : isLit z = true) : isName (bare z) = true := h
theorem find_cong {f g : Str → Bool} : ∀ {D : List Str}, (∀ z ∈ D, f z = g z) → D.find? f = D.find? g
  | [], _ => rfl
  | z :: r, h => by
    rw [List.find?_cons, List.find?_cons, h z List.mem_cons_self, find_cong fun y hy => h y (List.mem_cons_of_mem _ hy)]
/-- check_signs(ordered) -/
def spSigns (CS : Addr) : Sp := fun vs H Q E => ∃ (b : Addr) (D : List Str), vs = [.ref b] ∧ H b = some (.lst (D.map V.str)) ∧ (∀ z ∈ D, isLit z = true ∧ z.cps.size ≤ 50 ∧ ∀ c ∈ z.cps.toList, c < 128) ∧
  (∀ z, D.find? (fun z => decide (flip z ∈ D)) = some z → ∀ H' d, Evl.Ex H H' → H' d = some (.xd [("name", .str (bare z))]) → E (.ref CS) (some d) H') ∧
  (D.find? (fun z => decide (flip z ∈ D)) = none → ∀ H', Evl.Ex H H' → Q .non H')
theorem pick_str {D : List Str} {i : Nat} {y : V} (hi : (D.map V.str)[i]? = some y) : ∃ z, D[i]? = some z ∧ V.str z = y := by
  rw [List.getElem?_map] at hi
  cases e : D[i]? with
  | none => rw [e] at hi; cases hi
  | some z => rw [e] at hi; exact ⟨z, rfl, Option.some.inj hi⟩
/-- the first one that meets a test, when all before it do not -/
theorem find_at1 {D : List Str} {f : Str → Bool} {i : Nat} {z : Str} (hz : D[i]? = some z) (no : ∀ y ∈ D.take i, f y = false) (yes : f z = true) : D.find? f = some z := by
  have lt := (List.getElem?_eq_some_iff.mp hz).1
  have q := (List.getElem?_eq_some_iff.mp hz).2
  have z2 : D.drop i = z :: D.drop (i + 1) := by rw [List.drop_eq_getElem_cons lt, q]
  have e0 : D = D.take i ++ z :: D.drop (i + 1) := by rw [← z2, List.take_append_drop]
  rw [e0, List.find?_append, List.find?_eq_none.mpr (fun y hy => by rw [no y hy]; decide), List.find?_cons, yes]
  rfl
open Evl in
theorem ok_check_signs (T : Txt P K mg) : FnOk P w K mg base (L2N.CX P w) 7 T.f_check_signs T.d_check_signs ["ordered"] (spSigns T.C_BothSigns) := by
  refine T.F_check_signs.okN sc_check_signs (fun vs H Q E h => ?_) (fun cdv A outer s H vs Q E hr h => ?_)
  · obtain ⟨b, D, rfl, _⟩ := h
    rfl
  · obtain ⟨b, D, rfl, hb, lits, bad, good⟩ := h
    refine ⟨_, (pss_one (ps_for PassesOwn.leaving rfl (pi_list (pv 0)) (pg_name (i := 1) sc_check_signs.nd rfl (.inl rfl)) (pss_one (ps_if (pt_cmpR op_in_seq (pe_call (ok_negated T) (hr.mono (by decide)) rfl T.g_negated T.F_negated.kp T.b_negated .nil (L2N.passes_call (L2N.takes_of rfl rfl rfl rfl) (fun _ _ _ _ h => h)) (pa_cons (pv 1) pa_nil)) (pv 0) (by rfl))
      (pss_one (L2N.ps_raise rfl (L2N.takes_of rfl rfl rfl rfl) (pmk1 T.E_BothSigns rfl fld_name T.o_BothSigns hr (pa_cons (pe_call (ok_name_of T) (hr.mono (by decide)) rfl T.g_name_of T.F_name_of.kp T.b_name_of .nil (L2N.passes_call (L2N.takes_of rfl rfl rfl rfl) (fun _ _ _ _ h => h)) (pa_cons (pv 1) pa_nil)) pa_nil) rfl (by decide)))) pss_nil)))), ?_⟩
    refine ⟨_, rfl, b, rfl, ⟨_, sq_of hb⟩, for_list (K := K) (xs := D.map V.str) (fun i σ H' => ∃ v1 : Option V, σ = [some (V.ref b), v1] ∧ Ex H H' ∧ ∀ z ∈ D.take i, decide (flip z ∈ D) = false)
      ⟨_, rfl, Ex.refl _, fun z hz => by simp at hz⟩ (fun i σ H' _ ⟨_, _, e, _⟩ => sq_of (e _ _ hb)) ?_ ?_⟩
    · rintro i y σ H2 hi ⟨v1, rfl, e2, no⟩
      obtain ⟨z, hz, rfl⟩ := pick_str hi
      have zD : z ∈ D := List.mem_of_getElem? hz
      obtain ⟨zl, zs, zc⟩ := lits z zD
      refine ⟨_, rfl, z, rfl, zs, zc, fun _ H3 e3 => ⟨_, rfl, (rv_isL (K := K) (sq_of (e3 _ _ (e2 _ _ hb))) rfl (flat_str _)) H3 (Ex.refl _) _ fun H4 e4 => ?_⟩, fun no => absurd zl (by rw [no]; decide)⟩
      rw [in_map]
      cases bz : decide (flip z ∈ D) with
      | true =>
        refine ⟨_, rfl, iteT ?_⟩
        refine ⟨_, rfl, z, rfl, zs, zc, fun _ H5 e5 => ⟨_, rfl, fun u hu => ?_, fun d nd => ?_⟩, fun no => absurd zl (by rw [no]; decide)⟩
        · obtain ⟨tk, rfl⟩ := hu
          refine msg_sc fld_name (by decide) ?_
          have h8 := (name_txt (lit_bare zl)).1
          have e : (bare z).length = (bare z).cps.size := rfl
          omega
        · exact bad z (find_at1 hz no bz) _ d ((((e2.trans e3).trans e4).trans e5).trans (Ex.new nd)) upd_same
      | false =>
        refine ⟨_, rfl, iteF ?_⟩
        refine ⟨_, rfl, (e2.trans e3).trans e4, fun y hy => ?_⟩
        rw [List.take_add_one, hz] at hy
        rcases List.mem_append.mp hy with h | h
        · exact no y h
        · have e : y = z := by simpa using h
          rw [e]; exact bz
    · rintro σ H2 ⟨v1, rfl, e2, no⟩
      rw [List.length_map, List.take_length] at no
      exact good (List.find?_eq_none.mpr fun z hz => by rw [no z hz]; decide) H2 e2
open Evl in
theorem okR_Clause_init (T : Txt P K mg) : FnR P w K mg base (L2N.CX P w) 8 T.f_Clause_init (fun vs H Q E => ∃ ws rest, vs = ws ++ rest ∧ ws.length = ["self"].length ∧ rest.length ≤ sizeLine ∧ ∀ p, H p = none → spCl T.C_Clause T.C_BadLiteral T.C_BothSigns T.C_TooMany (ws ++ [V.ref p]) (upd H p (.tup rest)) Q E) := by
  refine T.F_Clause_init.okStar (ps := ["self"]) sc_Clause_init (fun kV doc pm an cdv ct => StX.bind_star1 (B := fun us => bindArgs (PySem.W.fnOf "__init__" "Clause.__init__" (defArgs s_Clause_init) (defBody s_Clause_init) (defScope s_Clause_init) .none kV doc pm an cdv ct) ⟨us, []⟩) (p1 := "self") (pv := "literals") (fun a => rfl) (fun a r rs => rfl)) (fun cdv A outer s H vs Q E hr h => ?_)
  obtain ⟨x, dx, t, L, rfl, hx, ht, few, txt, bad, good⟩ := h
  obtain ⟨u6, cv6⟩ := T.V_Clause_LIMIT
  refine ⟨_, (pss_cons (ps_set (i := 2) sc_Clause_init.nd rfl (.inl rfl) (pe_call (okT_in_order T) (hr.mono (by decide)) rfl T.g_in_order T.F_in_order.kp T.b_in_order .nil (L2N.passes_call (L2N.takes_of rfl rfl rfl rfl) (fun _ _ _ _ h => h)) (pa_cons (pv 1) pa_nil)))
    (pss_cons (ps_expr (pe_call (ok_check_signs T) (hr.mono (by decide)) rfl T.g_check_signs T.F_check_signs.kp T.b_check_signs .nil (L2N.passes_call (L2N.takes_of rfl rfl rfl rfl) (fun _ _ _ _ h => h)) (pa_cons (pv 2) pa_nil)))
    (pss_cons (ps_if (pt_cmpR op_gt (pe_callB call_len_seq (by rfl) T.n_len PySem.boot_len (pa_cons (pv 2) pa_nil)) (ClX.pe_cval (pe_glob (v := .ref T.C_Clause) rfl T.g_Clause rfl)) (nomark _))
      (pss_one (L2N.ps_raise rfl (L2N.takes_of rfl rfl rfl rfl) (pmk1 T.E_TooMany rfl fld_limit T.o_TooMany hr (pa_cons (ClX.pe_cval (pe_glob (v := .ref T.C_Clause) rfl T.g_Clause rfl)) pa_nil) rfl (by decide)))) pss_nil)
    (pss_one (ps_fld (pv 0) (pe_callTy call_tuple_of (by rfl) T.n_tuple (by decide +kernel) (pa_cons (pv 2) pa_nil)) rfl))))), ?_⟩
  have short : ∀ z ∈ L, z.cps.size ≤ 50 ∧ ∀ c ∈ z.cps.toList, c < 128 := fun z hz => ⟨Nat.le_trans (txt z hz).1 (by decide), (txt z hz).2⟩
  refine ⟨_, rfl, t, L, rfl, ht, by omega, short, fun lits N od b H1 nb e1 hb => ?_, bad⟩
  obtain ⟨sign, many, fin⟩ := good lits N od
  have ndash : ∀ n ∈ N, dash n = false := fun n hn => by
    obtain ⟨z, hz, rfl⟩ := List.mem_map.mp ((od.mem n).mp hn)
    exact name_dash (lit_bare (lits z hz))
  have dmem := due_mem od
  have found : (due L N).find? (fun z => decide (flip z ∈ due L N)) = N.find? (bothIn L) := by
    rw [← find_both (L := L) ndash]
    refine find_cong fun z hz => ?_
    have zL := (dmem z).mp hz
    rw [← flip_in zL (name_dash (lit_bare (lits z zL)))]
    exact decide_eq_decide.mpr (dmem _)
  refine ⟨_, rfl, b, due L N, rfl, hb, fun z hz => ⟨lits z ((dmem z).mp hz), short z ((dmem z).mp hz)⟩, fun z fz H' d e hd => ?_, fun none H2 e2 => ?_⟩
  · rw [found] at fz
    have zn : z ∈ N := List.mem_of_find?_eq_some fz
    rw [bare_no (ndash z zn)] at hd
    exact sign z fz H' d (e1.trans e) hd
  · rw [found] at none
    have hx2 := e2 _ _ (e1 _ _ hx)
    have hb2 := e2 _ _ hb
    refine ⟨_, rfl, b, _, rfl, .inl (SqL.of hb2), T.C_Clause, .type "type", .int 6, u6, rfl, T.R_Clause, cv6, _, _, rfl, rfl, _, rfl, ite2 (fun big => ?_) (fun big => ?_)⟩
    · have big2 : 6 < (due L N).length := by
        have z := of_decide_eq_true big
        rw [List.length_map] at z
        omega
      refine ⟨T.C_Clause, .type "type", .int 6, u6, rfl, T.R_Clause, cv6, _, rfl, fun u hu => ?_, fun d nd => many none big2 _ d ((e1.trans e2).trans (Ex.new nd)) upd_same⟩
      obtain ⟨tk, rfl⟩ := hu
      exact msg_ci fld_limit (by decide) (by decide) (by decide)
    · have big2 : (due L N).length ≤ 6 := Nat.le_of_not_lt fun h => big (decide_eq_true (by rw [List.length_map]; omega))
      refine ⟨_, rfl, b, _, rfl, .inl ⟨SqL.of hb2, fun p np => ⟨.ref x, rfl, x, _, dx, _, rfl, (by rw [upd_ne (ne_of_none hx2 np)]; exact hx2), T.cl_Clause, T.na_Clause_literals, (by show 0 < 1000; decide), ?_⟩⟩⟩
      have xp : p ≠ x := fun e => by rw [e, hx2] at np; cases np
      refine fin none big2 _ p (fun c o nc hc => ?_) (fresh_back (e1.trans e2) np) upd_same (by rw [upd_ne xp, upd_same])
      rw [upd_ne nc, upd_ne (ne_of_none (e2 _ _ (e1 _ _ hc)) np)]
      exact e2 _ _ (e1 _ _ hc)
/-! ### Clause(..) of 0 to 8 strings -/
section
open Evl
theorem pe_makeR0 {X : Cx} {CX : CXT} {k : Nat} {f C : Addr} {sp : Sp} {E : XK} {x : Str} {p pos : Pos} (M : Mk X.K C f) (F : FnR X.prog X.w X.K X.mg X.base CX k f sp) (hr : Room (k + 1) X.A) (hg : Gl X x) (hm : X.mg x = some (.ref C)) (hx : Passes CX X E) (hdb : (x == ("__debug__" : Str)) = false := by decide) :
    PE X (.Call (.Name x p) [] [] pos) (StX.tMakeR C sp E tNil) := by
  refine ⟨fun pins s σ H Q I h => ?_⟩
  refine wpAny_Call_Name_kw (ld_glob I hg hm (PySem.W.callWith_K0 I.kIn M.kp ?_) hdb)
  exact StX.run_makeR (us := []) M F hr hx I .nil h
theorem mkC (T : Txt P K mg) : Mk K T.C_Clause T.f_Clause_init := ⟨T.mi_Clause, T.m_Clause_init, T.i_Clause_init, T.kc_Clause⟩
structure MkL (C CB CS CT : Addr) (L : List Str) (H : Hp) (Q : VK) (E : XK) : Prop where
  bad : ∀ pre z post, L = pre ++ z :: post → (∀ y ∈ pre, isLit y = true) → isLit z = false → ∀ H' d, Ex H H' → H' d = some (.xd [("text", .str z)]) → E (.ref CB) (some d) H'
  sign : (∀ z ∈ L, isLit z = true) → ∀ N, Ord (L.map bare) N → ∀ n, N.find? (bothIn L) = some n → ∀ H' d, Ex H H' → H' d = some (.xd [("name", .str n)]) → E (.ref CS) (some d) H'
  many : (∀ z ∈ L, isLit z = true) → ∀ N, Ord (L.map bare) N → N.find? (bothIn L) = none → 6 < (due L N).length → ∀ H' d, Ex H H' → H' d = some (.xd [("limit", .int 6)]) → E (.ref CT) (some d) H'
  good : (∀ z ∈ L, isLit z = true) → ∀ N, Ord (L.map bare) N → N.find? (bothIn L) = none → (due L N).length ≤ 6 → ∀ H' x dx p, Ex H H' → H' x = some (.ins C dx [("literals", .ref p)]) → H' p = some (.tup ((due L N).map V.str)) → Q (.ref x) H'
theorem MkL.mono {C CB CS CT : Addr} {L : List Str} {H H1 : Hp} {Q : VK} {E : XK} (m : MkL C CB CS CT L H Q E) (e : Ex H H1) : MkL C CB CS CT L H1 Q E :=
  ⟨fun a b c d f g H' x y => m.bad a b c d f g H' x (e.trans y), fun a N b n c H' d x => m.sign a N b n c H' d (e.trans x), fun a N b c f H' d x => m.many a N b c f H' d (e.trans x), fun a N b c f H' x dx p y => m.good a N b c f H' x dx p (e.trans y)⟩
def spInitR (C CB CS CT : Addr) : Sp := fun vs H Q E => ∃ ws rest, vs = ws ++ rest ∧ ws.length = ["self"].length ∧ rest.length ≤ sizeLine ∧ ∀ p, H p = none → spCl C CB CS CT (ws ++ [V.ref p]) (upd H p (.tup rest)) Q E
theorem mk_args {C CB CS CT : Addr} {L : List Str} {σ : L2.St} {H : Hp} {Q : VK} {E : XK} {ta : TA} (few : L.length ≤ 30) (txt : ∀ z ∈ L, Txt8 20 z) (hA : EvA ta σ H (L.map V.str)) (go : MkL C CB CS CT L H Q E) : StX.tMakeR C (spInitR C CB CS CT) E ta σ H Q :=
  hA H (Ex.refl H) _ fun H1 e1 x dx hx hd ne => ⟨[.ref x], L.map V.str, rfl, rfl, by rw [List.length_map]; exact sz_of (by omega), fun p np => by
    have m := go.mono e1
    have px : p ≠ x := fun e => by rw [e, upd_same] at np; cases np
    have pd : p ≠ dx := fun e => by rw [e, upd_ne ne, upd_same] at np; cases np
    have np1 : H1 p = none := by rw [upd_ne px, upd_ne pd] at np; exact np
    have e0 : Ex H1 (upd (upd (upd H1 dx (.own x)) x (.ins C dx [])) p (.tup (L.map V.str))) := fun c o hc => by rw [upd_ne (ne_of_none hc np1), upd_ne (ne_of_none hc hx), upd_ne (ne_of_none hc hd)]; exact hc
    refine ⟨x, dx, p, L, rfl, by rw [upd_ne px.symm, upd_same], upd_same, few, txt, fun pre z post a b c H' d e => m.bad pre z post a b c H' d (e0.trans e), fun lits N od => ⟨fun n f H' d e => m.sign lits N od n f H' d (e0.trans e), fun f l H' d e => m.many lits N od f l H' d (e0.trans e), fun f l H' q k nq hx' hq => ⟨rfl, m.good lits N od f l H' x dx q (fun c o hc => k c o (ne_of_none hc hx) (e0 c o hc)) hx' hq⟩⟩⟩⟩
/-- _law_clause(row), up to 6 strings -/
def spClause (C CB CS CT : Addr) (n : Nat) : Sp := fun vs H Q E => ∃ (r : Addr) (L : List Str), vs = [.ref r] ∧ H r = some (.lst (L.map V.str)) ∧ L.length ≤ n ∧ (∀ z ∈ L, Txt8 20 z) ∧ MkL C CB CS CT L H Q E
theorem len_is {L : List Str} {k : Int} (e : decide (V.int ((L.map V.str).length : Int) = V.int k) = true) : (L.length : Int) = k := by
  have z := V.int.inj (of_decide_eq_true e)
  rw [List.length_map] at z
  exact z
theorem len_not {L : List Str} {k : Int} (e : ¬ decide (V.int ((L.map V.str).length : Int) = V.int k) = true) : (L.length : Int) ≠ k := fun z => e (decide_eq_true (by rw [List.length_map, z]))
theorem ok__law_clause (T : Txt P K mg) : FnOk P w K mg base (L2N.CX P w) 10 T.f__law_clause T.d__law_clause ["_law_row_here"] (spClause T.C_Clause T.C_BadLiteral T.C_BothSigns T.C_TooMany 6) := by
  refine T.F__law_clause.okN sc__law_clause (fun vs H Q E h => ?_) (fun cdv A outer s H vs Q E hr h => ?_)
  · obtain ⟨r, L, rfl, _⟩ := h
    rfl
  · obtain ⟨r, L, rfl, hr0, few, txt, go⟩ := h
    refine ⟨_, (pss_cons (ps_if (pt_cmpR op_eq (pe_callB call_len_seq (by rfl) T.n_len PySem.boot_len (pa_cons (pv 0) pa_nil)) pe_int (nomark _)) (pss_one (ps_ret (pe_makeR0 (mkC T) (okR_Clause_init T) (hr.mono (by decide)) rfl T.g_Clause (L2N.passes_call (L2N.takes_of rfl rfl rfl rfl) (fun _ _ _ _ h => h)) ))) pss_nil)
      (pss_cons (ps_if (pt_cmpR op_eq (pe_callB call_len_seq (by rfl) T.n_len PySem.boot_len (pa_cons (pv 0) pa_nil)) pe_int (nomark _)) (pss_one (ps_ret (StX.pe_makeR (mkC T) (okR_Clause_init T) (hr.mono (by decide)) rfl T.g_Clause (L2N.passes_call (L2N.takes_of rfl rfl rfl rfl) (fun _ _ _ _ h => h)) (pa_cons (pe_ix ix_list (pv 0) pe_int (fun _ _ => rfl)) pa_nil)))) pss_nil)
      (pss_cons (ps_if (pt_cmpR op_eq (pe_callB call_len_seq (by rfl) T.n_len PySem.boot_len (pa_cons (pv 0) pa_nil)) pe_int (nomark _)) (pss_one (ps_ret (StX.pe_makeR (mkC T) (okR_Clause_init T) (hr.mono (by decide)) rfl T.g_Clause (L2N.passes_call (L2N.takes_of rfl rfl rfl rfl) (fun _ _ _ _ h => h)) (pa_cons (pe_ix ix_list (pv 0) pe_int (fun _ _ => rfl)) (pa_cons (pe_ix ix_list (pv 0) pe_int (fun _ _ => rfl)) pa_nil))))) pss_nil)
      (pss_cons (ps_if (pt_cmpR op_eq (pe_callB call_len_seq (by rfl) T.n_len PySem.boot_len (pa_cons (pv 0) pa_nil)) pe_int (nomark _)) (pss_one (ps_ret (StX.pe_makeR (mkC T) (okR_Clause_init T) (hr.mono (by decide)) rfl T.g_Clause (L2N.passes_call (L2N.takes_of rfl rfl rfl rfl) (fun _ _ _ _ h => h)) (pa_cons (pe_ix ix_list (pv 0) pe_int (fun _ _ => rfl)) (pa_cons (pe_ix ix_list (pv 0) pe_int (fun _ _ => rfl)) (pa_cons (pe_ix ix_list (pv 0) pe_int (fun _ _ => rfl)) pa_nil)))))) pss_nil)
      (pss_cons (ps_if (pt_cmpR op_eq (pe_callB call_len_seq (by rfl) T.n_len PySem.boot_len (pa_cons (pv 0) pa_nil)) pe_int (nomark _)) (pss_one (ps_ret (StX.pe_makeR (mkC T) (okR_Clause_init T) (hr.mono (by decide)) rfl T.g_Clause (L2N.passes_call (L2N.takes_of rfl rfl rfl rfl) (fun _ _ _ _ h => h)) (pa_cons (pe_ix ix_list (pv 0) pe_int (fun _ _ => rfl)) (pa_cons (pe_ix ix_list (pv 0) pe_int (fun _ _ => rfl)) (pa_cons (pe_ix ix_list (pv 0) pe_int (fun _ _ => rfl)) (pa_cons (pe_ix ix_list (pv 0) pe_int (fun _ _ => rfl)) pa_nil))))))) pss_nil)
      (pss_cons (ps_if (pt_cmpR op_eq (pe_callB call_len_seq (by rfl) T.n_len PySem.boot_len (pa_cons (pv 0) pa_nil)) pe_int (nomark _)) (pss_one (ps_ret (StX.pe_makeR (mkC T) (okR_Clause_init T) (hr.mono (by decide)) rfl T.g_Clause (L2N.passes_call (L2N.takes_of rfl rfl rfl rfl) (fun _ _ _ _ h => h)) (pa_cons (pe_ix ix_list (pv 0) pe_int (fun _ _ => rfl)) (pa_cons (pe_ix ix_list (pv 0) pe_int (fun _ _ => rfl)) (pa_cons (pe_ix ix_list (pv 0) pe_int (fun _ _ => rfl)) (pa_cons (pe_ix ix_list (pv 0) pe_int (fun _ _ => rfl)) (pa_cons (pe_ix ix_list (pv 0) pe_int (fun _ _ => rfl)) pa_nil)))))))) pss_nil)
      (pss_one (ps_ret (StX.pe_makeR (mkC T) (okR_Clause_init T) (hr.mono (by decide)) rfl T.g_Clause (L2N.passes_call (L2N.takes_of rfl rfl rfl rfl) (fun _ _ _ _ h => h)) (pa_cons (pe_ix ix_list (pv 0) pe_int (fun _ _ => rfl)) (pa_cons (pe_ix ix_list (pv 0) pe_int (fun _ _ => rfl)) (pa_cons (pe_ix ix_list (pv 0) pe_int (fun _ _ => rfl)) (pa_cons (pe_ix ix_list (pv 0) pe_int (fun _ _ => rfl)) (pa_cons (pe_ix ix_list (pv 0) pe_int (fun _ _ => rfl)) (pa_cons (pe_ix ix_list (pv 0) pe_int (fun _ _ => rfl)) pa_nil))))))))))))))), ?_⟩
    refine ⟨.ref r, rfl, r, _, rfl, .inl (SqL.of hr0), rfl, _, rfl, ite2 (fun h0 => ?_) (fun h0 => ?_)⟩
    · have ln : L.length = 0 := by have z := len_is h0; omega
      obtain rfl : L = [] := List.eq_nil_of_length_eq_zero ln
      exact mk_args (L := []) (show 0 ≤ 30 by decide) txt ea_nil go
    have n0 := len_not h0
    refine ⟨.ref r, rfl, r, _, rfl, .inl (SqL.of hr0), rfl, _, rfl, ite2 (fun h0 => ?_) (fun h0 => ?_)⟩
    · have ln : L.length = 1 := by have z := len_is h0; omega
      obtain ⟨a, rfl⟩ : ∃ a, L = [a] := by
        match L, ln with
        | [a], _ => exact ⟨a, rfl⟩
      exact mk_args (L := [a]) (show 1 ≤ 30 by decide) txt (ea_cons (ev_op (ev_var rfl) ev_c (rv_ixL (sq_of hr0) (atI_nat (j := 0) rfl))) ea_nil) go
    have n1 := len_not h0
    refine ⟨.ref r, rfl, r, _, rfl, .inl (SqL.of hr0), rfl, _, rfl, ite2 (fun h0 => ?_) (fun h0 => ?_)⟩
    · have ln : L.length = 2 := by have z := len_is h0; omega
      obtain ⟨a, b, rfl⟩ : ∃ a b, L = [a, b] := by
        match L, ln with
        | [a, b], _ => exact ⟨a, b, rfl⟩
      exact mk_args (L := [a, b]) (show 2 ≤ 30 by decide) txt (ea_cons (ev_op (ev_var rfl) ev_c (rv_ixL (sq_of hr0) (atI_nat (j := 0) rfl))) (ea_cons (ev_op (ev_var rfl) ev_c (rv_ixL (sq_of hr0) (atI_nat (j := 1) rfl))) ea_nil)) go
    have n2 := len_not h0
    refine ⟨.ref r, rfl, r, _, rfl, .inl (SqL.of hr0), rfl, _, rfl, ite2 (fun h0 => ?_) (fun h0 => ?_)⟩
    · have ln : L.length = 3 := by have z := len_is h0; omega
      obtain ⟨a, b, c, rfl⟩ : ∃ a b c, L = [a, b, c] := by
        match L, ln with
        | [a, b, c], _ => exact ⟨a, b, c, rfl⟩
      exact mk_args (L := [a, b, c]) (show 3 ≤ 30 by decide) txt (ea_cons (ev_op (ev_var rfl) ev_c (rv_ixL (sq_of hr0) (atI_nat (j := 0) rfl))) (ea_cons (ev_op (ev_var rfl) ev_c (rv_ixL (sq_of hr0) (atI_nat (j := 1) rfl))) (ea_cons (ev_op (ev_var rfl) ev_c (rv_ixL (sq_of hr0) (atI_nat (j := 2) rfl))) ea_nil))) go
    have n3 := len_not h0
    refine ⟨.ref r, rfl, r, _, rfl, .inl (SqL.of hr0), rfl, _, rfl, ite2 (fun h0 => ?_) (fun h0 => ?_)⟩
    · have ln : L.length = 4 := by have z := len_is h0; omega
      obtain ⟨a, b, c, d, rfl⟩ : ∃ a b c d, L = [a, b, c, d] := by
        match L, ln with
        | [a, b, c, d], _ => exact ⟨a, b, c, d, rfl⟩
      exact mk_args (L := [a, b, c, d]) (show 4 ≤ 30 by decide) txt (ea_cons (ev_op (ev_var rfl) ev_c (rv_ixL (sq_of hr0) (atI_nat (j := 0) rfl))) (ea_cons (ev_op (ev_var rfl) ev_c (rv_ixL (sq_of hr0) (atI_nat (j := 1) rfl))) (ea_cons (ev_op (ev_var rfl) ev_c (rv_ixL (sq_of hr0) (atI_nat (j := 2) rfl))) (ea_cons (ev_op (ev_var rfl) ev_c (rv_ixL (sq_of hr0) (atI_nat (j := 3) rfl))) ea_nil)))) go
    have n4 := len_not h0
    refine ⟨.ref r, rfl, r, _, rfl, .inl (SqL.of hr0), rfl, _, rfl, ite2 (fun h0 => ?_) (fun h0 => ?_)⟩
    · have ln : L.length = 5 := by have z := len_is h0; omega
      obtain ⟨a, b, c, d, e, rfl⟩ : ∃ a b c d e, L = [a, b, c, d, e] := by
        match L, ln with
        | [a, b, c, d, e], _ => exact ⟨a, b, c, d, e, rfl⟩
      exact mk_args (L := [a, b, c, d, e]) (show 5 ≤ 30 by decide) txt (ea_cons (ev_op (ev_var rfl) ev_c (rv_ixL (sq_of hr0) (atI_nat (j := 0) rfl))) (ea_cons (ev_op (ev_var rfl) ev_c (rv_ixL (sq_of hr0) (atI_nat (j := 1) rfl))) (ea_cons (ev_op (ev_var rfl) ev_c (rv_ixL (sq_of hr0) (atI_nat (j := 2) rfl))) (ea_cons (ev_op (ev_var rfl) ev_c (rv_ixL (sq_of hr0) (atI_nat (j := 3) rfl))) (ea_cons (ev_op (ev_var rfl) ev_c (rv_ixL (sq_of hr0) (atI_nat (j := 4) rfl))) ea_nil))))) go
    have n5 := len_not h0
    have ln : L.length = 6 := by omega
    obtain ⟨a, b, c, d, e, f, rfl⟩ : ∃ a b c d e f, L = [a, b, c, d, e, f] := by
      match L, ln with
      | [a, b, c, d, e, f], _ => exact ⟨a, b, c, d, e, f, rfl⟩
    exact mk_args (L := [a, b, c, d, e, f]) (show 6 ≤ 30 by decide) txt (ea_cons (ev_op (ev_var rfl) ev_c (rv_ixL (sq_of hr0) (atI_nat (j := 0) rfl))) (ea_cons (ev_op (ev_var rfl) ev_c (rv_ixL (sq_of hr0) (atI_nat (j := 1) rfl))) (ea_cons (ev_op (ev_var rfl) ev_c (rv_ixL (sq_of hr0) (atI_nat (j := 2) rfl))) (ea_cons (ev_op (ev_var rfl) ev_c (rv_ixL (sq_of hr0) (atI_nat (j := 3) rfl))) (ea_cons (ev_op (ev_var rfl) ev_c (rv_ixL (sq_of hr0) (atI_nat (j := 4) rfl))) (ea_cons (ev_op (ev_var rfl) ev_c (rv_ixL (sq_of hr0) (atI_nat (j := 5) rfl))) ea_nil)))))) go
end
section
open Evl
theorem given_true (n : Nat) : given n (fun _ => true) (fun _ => V.bl true) = (List.replicate n true).map V.bl := by
  have e : List.filter (fun _ => true) (List.range n) = List.range n := List.filter_eq_self.mpr fun _ _ => rfl
  unfold given
  rw [e]
  simp [List.map_const']
theorem given_eq {te : TE} {σ : L2.St} {H : Hp} {n : Nat} (h : EvL te σ H (given n (fun _ => true) (fun _ => V.bl true))) : EvL te σ H ((List.replicate n true).map V.bl) := by
  rw [given_true] at h
  exact h
end
section
open Evl
theorem FnOk_or {CX : CXT} {k : Nat} {f : Addr} {fd : FuncData} {ps : List Str} {sp1 sp2 : Sp} (F1 : FnOk P w K mg base CX k f fd ps sp1) (F2 : FnOk P w K mg base CX k f fd ps sp2) : FnOk P w K mg base CX k f fd ps (fun vs H Q E => sp1 vs H Q E ∨ sp2 vs H Q E) :=
  ⟨fun vs H Q E h => h.elim (F1.len vs H Q E) (F2.len vs H Q E), fun A outer s H args us vs Q E hr e0 b v h => h.elim (F1.run A outer s H args us vs Q E hr e0 b v) (F2.run A outer s H args us vs Q E hr e0 b v)⟩
/-- _law_same(one, other) of two tuples, each item the same as the other's by spR -/
def spSameG (spR : Sp) : Sp := fun vs H Q _ => ∃ (a b : Addr) (xs ys : List V), vs = [.ref a, .ref b] ∧ H a = some (.tup xs) ∧ H b = some (.tup ys) ∧ xs.length = ys.length ∧ xs.length ≤ 100 ∧ (∀ (i : Nat) (x y : V), xs[i]? = some x → ys[i]? = some y → SpV spR [x, y] H (.bl true)) ∧ ∀ H', Ex H H' → Q (.bl true) H'
theorem ev_isU {σ : L2.St} {H : Hp} {ta : TE} {a : Addr} {xs : List V} {c : String} {b : Bool} (h : Ev ta σ H (.ref a)) (ha : H a = some (.tup xs)) (hk : kitB "tuple" c = some b) : Ev (tCB (rIsi K) (tCons ta (tCons (tC (.ty c)) tNil))) σ H (.bl b) :=
  ev_cb (ea_cons h (ea_cons ev_c ea_nil)) fun H1 e Q q => ⟨.ref a, .ty c, .type "tuple", .type c, b, rfl, .ty c, .base (.tup (e _ _ ha)), kit_ty hk, q H1 (Ex.refl H1)⟩
theorem okG__law_same (T : Txt P K mg) {kR : Nat} {spR : Sp} (FR : FnOk P w K mg base CX0 kR T.f__law_same T.d__law_same ["_law_one", "_law_other"] spR) : FnOk P w K mg base CX0 (kR + 1) T.f__law_same T.d__law_same ["_law_one", "_law_other"] (spSameG spR) := by
  refine T.F__law_same.ok sc__law_same (fun vs H Q E h => ?_) (fun cdv A outer s H vs Q E hr h => ?_)
  · obtain ⟨a, b, xs, ys, rfl, _⟩ := h
    rfl
  · obtain ⟨a, b, xs, ys, rfl, ha, hb, ln, hl, each, k⟩ := h
    refine ⟨_, (pss_cons (ps_if (PW.pt (pw_or (pt_val (pe_callB call_isi (by rfl) T.n_isinstance (by decide +kernel) (pa_cons (pv 0) (pa_cons (pe_bltn (v := .ty "bool") (u := .type "bool") (by rfl) T.n_bool (by decide +kernel) rfl) pa_nil)))) (pw_or1 (pt_val (pe_callB call_isi (by rfl) T.n_isinstance (by decide +kernel) (pa_cons (pv 1) (pa_cons (pe_bltn (v := .ty "bool") (u := .type "bool") (by rfl) T.n_bool (by decide +kernel) rfl) pa_nil))))))) (pss_one (ps_ret (pe_and (pe_callB call_isi (by rfl) T.n_isinstance (by decide +kernel) (pa_cons (pv 0) (pa_cons (pe_bltn (v := .ty "bool") (u := .type "bool") (by rfl) T.n_bool (by decide +kernel) rfl) pa_nil))) (pe_and (pe_callB call_isi (by rfl) T.n_isinstance (by decide +kernel) (pa_cons (pv 1) (pa_cons (pe_bltn (v := .ty "bool") (u := .type "bool") (by rfl) T.n_bool (by decide +kernel) rfl) pa_nil))) (pe_one (pe_cmpR op_eq (pv 0) (pv 1) (nomark _))))))) pss_nil)
      (pss_cons (ps_if (PW.pt (pw_or (pt_val (pe_callB call_isi (by rfl) T.n_isinstance (by decide +kernel) (pa_cons (pv 0) (pa_cons (pe_bltn (v := .ty "int") (u := .type "int") (by rfl) T.n_int (by decide +kernel) rfl) pa_nil)))) (pw_or1 (pt_val (pe_callB call_isi (by rfl) T.n_isinstance (by decide +kernel) (pa_cons (pv 1) (pa_cons (pe_bltn (v := .ty "int") (u := .type "int") (by rfl) T.n_int (by decide +kernel) rfl) pa_nil))))))) (pss_one (ps_ret (pe_and (pe_callB call_isi (by rfl) T.n_isinstance (by decide +kernel) (pa_cons (pv 0) (pa_cons (pe_bltn (v := .ty "int") (u := .type "int") (by rfl) T.n_int (by decide +kernel) rfl) pa_nil))) (pe_and (pe_callB call_isi (by rfl) T.n_isinstance (by decide +kernel) (pa_cons (pv 1) (pa_cons (pe_bltn (v := .ty "int") (u := .type "int") (by rfl) T.n_int (by decide +kernel) rfl) pa_nil))) (pe_one (pe_cmpR op_eq (pv 0) (pv 1) (nomark _))))))) pss_nil)
      (pss_cons (ps_if (PW.pt (pw_or (pt_val (pe_callB call_isi (by rfl) T.n_isinstance (by decide +kernel) (pa_cons (pv 0) (pa_cons (pe_bltn (v := .ty "str") (u := .type "str") (by rfl) T.n_str (by decide +kernel) rfl) pa_nil)))) (pw_or1 (pt_val (pe_callB call_isi (by rfl) T.n_isinstance (by decide +kernel) (pa_cons (pv 1) (pa_cons (pe_bltn (v := .ty "str") (u := .type "str") (by rfl) T.n_str (by decide +kernel) rfl) pa_nil))))))) (pss_one (ps_ret (pe_and (pe_callB call_isi (by rfl) T.n_isinstance (by decide +kernel) (pa_cons (pv 0) (pa_cons (pe_bltn (v := .ty "str") (u := .type "str") (by rfl) T.n_str (by decide +kernel) rfl) pa_nil))) (pe_and (pe_callB call_isi (by rfl) T.n_isinstance (by decide +kernel) (pa_cons (pv 1) (pa_cons (pe_bltn (v := .ty "str") (u := .type "str") (by rfl) T.n_str (by decide +kernel) rfl) pa_nil))) (pe_one (pe_cmpR op_eq (pv 0) (pv 1) (nomark _))))))) pss_nil)
      (pss_cons (ps_set (i := 2) sc__law_same.nd rfl (.inl rfl) (pe_and (pe_callB call_isi (by rfl) T.n_isinstance (by decide +kernel) (pa_cons (pv 0) (pa_cons (pe_bltn (v := .ty "list") (u := .type "list") (by rfl) T.n_list (by decide +kernel) rfl) pa_nil))) (pe_one (pe_callB call_isi (by rfl) T.n_isinstance (by decide +kernel) (pa_cons (pv 1) (pa_cons (pe_bltn (v := .ty "list") (u := .type "list") (by rfl) T.n_list (by decide +kernel) rfl) pa_nil))))))
      (pss_cons (ps_if (PW.pt (pw_and (pt_not (pt_val (pv 2))) (pw_and1 (pt_not (PW.pt (pw_and (pt_val (pe_callB call_isi (by rfl) T.n_isinstance (by decide +kernel) (pa_cons (pv 0) (pa_cons (pe_bltn (v := .ty "tuple") (u := .type "tuple") (by rfl) T.n_tuple (by decide +kernel) rfl) pa_nil)))) (pw_and1 (pt_val (pe_callB call_isi (by rfl) T.n_isinstance (by decide +kernel) (pa_cons (pv 1) (pa_cons (pe_bltn (v := .ty "tuple") (u := .type "tuple") (by rfl) T.n_tuple (by decide +kernel) rfl) pa_nil))))))))))) (pss_one (ps_ret (pe_and (pe_cmpR op_isN (pv 0) pe_non (nomark _)) (pe_one (pe_cmpR op_isN (pv 1) pe_non (nomark _)))))) pss_nil)
      (pss_one (ps_ret (pe_and (pe_cmpR op_eq (pe_callB call_len_seq (by rfl) T.n_len PySem.boot_len (pa_cons (pv 0) pa_nil)) (pe_callB call_len_seq (by rfl) T.n_len PySem.boot_len (pa_cons (pv 1) pa_nil)) (nomark _)) (pe_one (pe_callB (cr_all rfl) (by rfl) T.n_all (by decide +kernel) (pa_cons (pe_lc (own := [("_law_k", 3)]) (g := gName 3) (by rfl) sc__law_same.nd (pi_range1 rfl T.n_range (pa_cons (pe_callB call_len_seq (by rfl) T.n_len PySem.boot_len (pa_cons (pv 0) pa_nil)) pa_nil)) (blkOk_by (own := [("_law_k", 3)]) (N := N__law_same) (sc := defScope s__law_same) (by decide +kernel)) (fun _ _ _ _ _ => pg_name (i := 3) sc__law_same.nd rfl (Or.inl rfl)) (fun _ _ _ _ _ => pts_nil) (fun _ _ _ _ _ => (pe_call FR hr rfl T.g__law_same T.F__law_same.kp T.b__law_same .nil pass0 (pa_cons (pe_ix (r := rIxT K) ix_tup (pv 0) (pv 3) (fun _ _ => rfl)) (pa_cons (pe_ix (r := rIxT K) ix_tup (pv 1) (pv 3) (fun _ _ => rfl)) pa_nil))))) pa_nil))))))))))), ?_⟩
    have kb : kitB "tuple" "bool" = some false := by decide +kernel
    have ki : kitB "tuple" "int" = some false := by decide +kernel
    have ks : kitB "tuple" "str" = some false := by decide +kernel
    have kl : kitB "tuple" "list" = some false := by decide +kernel
    have kt : kitB "tuple" "tuple" = some true := by decide +kernel
    refine q_when (b := false) (et_is (et_or (et_B (ev_isU (ev_var rfl) ha kb)) (fun _ => et_B (ev_isU (ev_var rfl) hb kb))) rfl) (fun z => by cases z) (fun _ H1 e1 => ?_)
    have ha := e1 _ _ ha
    have hb := e1 _ _ hb
    refine q_when (b := false) (et_is (et_or (et_B (ev_isU (ev_var rfl) ha ki)) (fun _ => et_B (ev_isU (ev_var rfl) hb ki))) rfl) (fun z => by cases z) (fun _ H2 e2 => ?_)
    have ha := e2 _ _ ha
    have hb := e2 _ _ hb
    refine q_when (b := false) (et_is (et_or (et_B (ev_isU (ev_var rfl) ha ks)) (fun _ => et_B (ev_isU (ev_var rfl) hb ks))) rfl) (fun z => by cases z) (fun _ H3 e3 => ?_)
    have ha := e3 _ _ ha
    have hb := e3 _ _ hb
    refine q_asg (v := .bl false) (ev_is (ev_andV (b := false) (ev_isU (ev_var rfl) ha kl) (fun z => by cases z)) rfl) (fun H4 e4 => ?_)
    have ha := e4 _ _ ha
    have hb := e4 _ _ hb
    refine q_when (b := false) (et_is (et_and (a := true) (b := false) (et_is (et_not (et_B (ev_var rfl))) rfl) (fun _ => et_is (et_not (et_and (et_B (ev_isU (ev_var rfl) ha kt)) (fun _ => et_B (ev_isU (ev_var rfl) hb kt)))) rfl)) rfl) (fun z => by cases z) (fun _ H5 e5 => ?_)
    have ha := e5 _ _ ha
    have hb := e5 _ _ hb
    have e05 := (((e1.trans e2).trans e3).trans e4).trans e5
    refine s_ret (v := .bl true) (ev_is (ev_andV (a := true) (b := true) (ev_is (ev_op (x := .int (xs.length : Int)) (y := .int (xs.length : Int)) (ev_cb (ea_cons (ev_var rfl) ea_nil) fun H7 e7 Q q => ?_) (ev_cb (ea_cons (ev_var rfl) ea_nil) fun H7 e7 Q q => ?_) (rv_eq rfl)) (by simp)) (fun _ => ?_)) rfl) (fun H6 e6 => k H6 (e05.trans e6))
    · exact ⟨a, _, rfl, .inr (Evl.st_of (e7 _ _ ha)), q H7 (Ex.refl H7)⟩
    · exact ⟨b, _, rfl, .inr (Evl.st_of (e7 _ _ hb)), (by rw [← ln]; exact q H7 (Ex.refl H7))⟩
    · refine ev_is (ev_all (bs := List.replicate xs.length true) (given_eq (el_lcR1 (n := (xs.length : Int)) (fun _ => true) (fun _ => V.bl true) (ea_cons (ev_cb (ea_cons (ev_var rfl) ea_nil) fun H7 e7 Q q => ⟨a, _, rfl, .inr (Evl.st_of (e7 _ _ ha)), q H7 (Ex.refl H7)⟩) ea_nil) ⟨by omega, by omega⟩ (fun _ => rfl) (fun i H4 _ _ H5 _ Q q => q H5 (Ex.refl H5)) (fun i H6 e hi _ => ?_)))) (by simp)
      have hi2 : i < xs.length := by omega
      have hx : xs[i]? = some xs[i] := List.getElem?_eq_getElem hi2
      have hy : ys[i]? = some (ys[i]'(by omega)) := List.getElem?_eq_getElem (by omega)
      exact ev_call (ea_cons (ev_op (ev_var rfl) (ev_var rfl) (rv_ixT (Evl.st_of (e _ _ ha)) (atI_nat (j := i) hx))) (ea_cons (ev_op (ev_var rfl) (ev_var rfl) (rv_ixT (Evl.st_of (e _ _ hb)) (atI_nat (j := i) hy))) ea_nil)) fun H7 e7 => each i _ _ hx hy H7 ((e05.trans e).trans e7)
/-- _law_same(one, other) of two lists, each item the same as the other's by spR -/
def spSameLG (spR : Sp) : Sp := fun vs H Q _ => ∃ (a b : Addr) (xs ys : List V), vs = [.ref a, .ref b] ∧ H a = some (.lst xs) ∧ H b = some (.lst ys) ∧ xs.length = ys.length ∧ xs.length ≤ 100 ∧ (∀ (i : Nat) (x y : V), xs[i]? = some x → ys[i]? = some y → SpV spR [x, y] H (.bl true)) ∧ ∀ H', Ex H H' → Q (.bl true) H'
theorem ev_isL {σ : L2.St} {H : Hp} {ta : TE} {a : Addr} {xs : List V} {c : String} {b : Bool} (h : Ev ta σ H (.ref a)) (ha : H a = some (.lst xs)) (hk : kitB "list" c = some b) : Ev (tCB (rIsi K) (tCons ta (tCons (tC (.ty c)) tNil))) σ H (.bl b) :=
  ev_cb (ea_cons h (ea_cons ev_c ea_nil)) fun H1 e Q q => ⟨.ref a, .ty c, .type "list", .type c, b, rfl, .ty c, .base (.lst (e _ _ ha)), kit_ty hk, q H1 (Ex.refl H1)⟩
theorem okLG__law_same (T : Txt P K mg) {kR : Nat} {spR : Sp} (FR : FnOk P w K mg base CX0 kR T.f__law_same T.d__law_same ["_law_one", "_law_other"] spR) : FnOk P w K mg base CX0 (kR + 1) T.f__law_same T.d__law_same ["_law_one", "_law_other"] (spSameLG spR) := by
  refine T.F__law_same.ok sc__law_same (fun vs H Q E h => ?_) (fun cdv A outer s H vs Q E hr h => ?_)
  · obtain ⟨a, b, xs, ys, rfl, _⟩ := h
    rfl
  · obtain ⟨a, b, xs, ys, rfl, ha, hb, ln, hl, each, k⟩ := h
    refine ⟨_, (pss_cons (ps_if (PW.pt (pw_or (pt_val (pe_callB call_isi (by rfl) T.n_isinstance (by decide +kernel) (pa_cons (pv 0) (pa_cons (pe_bltn (v := .ty "bool") (u := .type "bool") (by rfl) T.n_bool (by decide +kernel) rfl) pa_nil)))) (pw_or1 (pt_val (pe_callB call_isi (by rfl) T.n_isinstance (by decide +kernel) (pa_cons (pv 1) (pa_cons (pe_bltn (v := .ty "bool") (u := .type "bool") (by rfl) T.n_bool (by decide +kernel) rfl) pa_nil))))))) (pss_one (ps_ret (pe_and (pe_callB call_isi (by rfl) T.n_isinstance (by decide +kernel) (pa_cons (pv 0) (pa_cons (pe_bltn (v := .ty "bool") (u := .type "bool") (by rfl) T.n_bool (by decide +kernel) rfl) pa_nil))) (pe_and (pe_callB call_isi (by rfl) T.n_isinstance (by decide +kernel) (pa_cons (pv 1) (pa_cons (pe_bltn (v := .ty "bool") (u := .type "bool") (by rfl) T.n_bool (by decide +kernel) rfl) pa_nil))) (pe_one (pe_cmpR op_eq (pv 0) (pv 1) (nomark _))))))) pss_nil)
      (pss_cons (ps_if (PW.pt (pw_or (pt_val (pe_callB call_isi (by rfl) T.n_isinstance (by decide +kernel) (pa_cons (pv 0) (pa_cons (pe_bltn (v := .ty "int") (u := .type "int") (by rfl) T.n_int (by decide +kernel) rfl) pa_nil)))) (pw_or1 (pt_val (pe_callB call_isi (by rfl) T.n_isinstance (by decide +kernel) (pa_cons (pv 1) (pa_cons (pe_bltn (v := .ty "int") (u := .type "int") (by rfl) T.n_int (by decide +kernel) rfl) pa_nil))))))) (pss_one (ps_ret (pe_and (pe_callB call_isi (by rfl) T.n_isinstance (by decide +kernel) (pa_cons (pv 0) (pa_cons (pe_bltn (v := .ty "int") (u := .type "int") (by rfl) T.n_int (by decide +kernel) rfl) pa_nil))) (pe_and (pe_callB call_isi (by rfl) T.n_isinstance (by decide +kernel) (pa_cons (pv 1) (pa_cons (pe_bltn (v := .ty "int") (u := .type "int") (by rfl) T.n_int (by decide +kernel) rfl) pa_nil))) (pe_one (pe_cmpR op_eq (pv 0) (pv 1) (nomark _))))))) pss_nil)
      (pss_cons (ps_if (PW.pt (pw_or (pt_val (pe_callB call_isi (by rfl) T.n_isinstance (by decide +kernel) (pa_cons (pv 0) (pa_cons (pe_bltn (v := .ty "str") (u := .type "str") (by rfl) T.n_str (by decide +kernel) rfl) pa_nil)))) (pw_or1 (pt_val (pe_callB call_isi (by rfl) T.n_isinstance (by decide +kernel) (pa_cons (pv 1) (pa_cons (pe_bltn (v := .ty "str") (u := .type "str") (by rfl) T.n_str (by decide +kernel) rfl) pa_nil))))))) (pss_one (ps_ret (pe_and (pe_callB call_isi (by rfl) T.n_isinstance (by decide +kernel) (pa_cons (pv 0) (pa_cons (pe_bltn (v := .ty "str") (u := .type "str") (by rfl) T.n_str (by decide +kernel) rfl) pa_nil))) (pe_and (pe_callB call_isi (by rfl) T.n_isinstance (by decide +kernel) (pa_cons (pv 1) (pa_cons (pe_bltn (v := .ty "str") (u := .type "str") (by rfl) T.n_str (by decide +kernel) rfl) pa_nil))) (pe_one (pe_cmpR op_eq (pv 0) (pv 1) (nomark _))))))) pss_nil)
      (pss_cons (ps_set (i := 2) sc__law_same.nd rfl (.inl rfl) (pe_and (pe_callB call_isi (by rfl) T.n_isinstance (by decide +kernel) (pa_cons (pv 0) (pa_cons (pe_bltn (v := .ty "list") (u := .type "list") (by rfl) T.n_list (by decide +kernel) rfl) pa_nil))) (pe_one (pe_callB call_isi (by rfl) T.n_isinstance (by decide +kernel) (pa_cons (pv 1) (pa_cons (pe_bltn (v := .ty "list") (u := .type "list") (by rfl) T.n_list (by decide +kernel) rfl) pa_nil))))))
      (pss_cons (ps_if (PW.pt (pw_and (pt_not (pt_val (pv 2))) (pw_and1 (pt_not (PW.pt (pw_and (pt_val (pe_callB call_isi (by rfl) T.n_isinstance (by decide +kernel) (pa_cons (pv 0) (pa_cons (pe_bltn (v := .ty "tuple") (u := .type "tuple") (by rfl) T.n_tuple (by decide +kernel) rfl) pa_nil)))) (pw_and1 (pt_val (pe_callB call_isi (by rfl) T.n_isinstance (by decide +kernel) (pa_cons (pv 1) (pa_cons (pe_bltn (v := .ty "tuple") (u := .type "tuple") (by rfl) T.n_tuple (by decide +kernel) rfl) pa_nil))))))))))) (pss_one (ps_ret (pe_and (pe_cmpR op_isN (pv 0) pe_non (nomark _)) (pe_one (pe_cmpR op_isN (pv 1) pe_non (nomark _)))))) pss_nil)
      (pss_one (ps_ret (pe_and (pe_cmpR op_eq (pe_callB call_len_seq (by rfl) T.n_len PySem.boot_len (pa_cons (pv 0) pa_nil)) (pe_callB call_len_seq (by rfl) T.n_len PySem.boot_len (pa_cons (pv 1) pa_nil)) (nomark _)) (pe_one (pe_callB (cr_all rfl) (by rfl) T.n_all (by decide +kernel) (pa_cons (pe_lc (own := [("_law_k", 3)]) (g := gName 3) (by rfl) sc__law_same.nd (pi_range1 rfl T.n_range (pa_cons (pe_callB call_len_seq (by rfl) T.n_len PySem.boot_len (pa_cons (pv 0) pa_nil)) pa_nil)) (blkOk_by (own := [("_law_k", 3)]) (N := N__law_same) (sc := defScope s__law_same) (by decide +kernel)) (fun _ _ _ _ _ => pg_name (i := 3) sc__law_same.nd rfl (Or.inl rfl)) (fun _ _ _ _ _ => pts_nil) (fun _ _ _ _ _ => (pe_call FR hr rfl T.g__law_same T.F__law_same.kp T.b__law_same .nil pass0 (pa_cons (pe_ix (r := rIxL K) ix_list (pv 0) (pv 3) (fun _ _ => rfl)) (pa_cons (pe_ix (r := rIxL K) ix_list (pv 1) (pv 3) (fun _ _ => rfl)) pa_nil))))) pa_nil))))))))))), ?_⟩
    have kb : kitB "list" "bool" = some false := by decide +kernel
    have ki : kitB "list" "int" = some false := by decide +kernel
    have ks : kitB "list" "str" = some false := by decide +kernel
    have kl : kitB "list" "list" = some true := by decide +kernel
    refine q_when (b := false) (et_is (et_or (et_B (ev_isL (ev_var rfl) ha kb)) (fun _ => et_B (ev_isL (ev_var rfl) hb kb))) rfl) (fun z => by cases z) (fun _ H1 e1 => ?_)
    have ha := e1 _ _ ha
    have hb := e1 _ _ hb
    refine q_when (b := false) (et_is (et_or (et_B (ev_isL (ev_var rfl) ha ki)) (fun _ => et_B (ev_isL (ev_var rfl) hb ki))) rfl) (fun z => by cases z) (fun _ H2 e2 => ?_)
    have ha := e2 _ _ ha
    have hb := e2 _ _ hb
    refine q_when (b := false) (et_is (et_or (et_B (ev_isL (ev_var rfl) ha ks)) (fun _ => et_B (ev_isL (ev_var rfl) hb ks))) rfl) (fun z => by cases z) (fun _ H3 e3 => ?_)
    have ha := e3 _ _ ha
    have hb := e3 _ _ hb
    refine q_asg (v := .bl true) (ev_is (ev_andV (ev_isL (ev_var rfl) ha kl) (fun _ => ev_isL (ev_var rfl) hb kl)) rfl) (fun H4 e4 => ?_)
    have ha := e4 _ _ ha
    have hb := e4 _ _ hb
    refine q_when (b := false) (et_is (et_and (a := false) (b := false) (et_is (et_not (et_B (ev_var rfl))) rfl) (fun z => by cases z)) rfl) (fun z => by cases z) (fun _ H5 e5 => ?_)
    have ha := e5 _ _ ha
    have hb := e5 _ _ hb
    have e05 := (((e1.trans e2).trans e3).trans e4).trans e5
    refine s_ret (v := .bl true) (ev_is (ev_andV (a := true) (b := true) (ev_is (ev_op (x := .int (xs.length : Int)) (y := .int (xs.length : Int)) (ev_cb (ea_cons (ev_var rfl) ea_nil) fun H7 e7 Q q => ?_) (ev_cb (ea_cons (ev_var rfl) ea_nil) fun H7 e7 Q q => ?_) (rv_eq rfl)) (by simp)) (fun _ => ?_)) rfl) (fun H6 e6 => k H6 (e05.trans e6))
    · exact ⟨a, _, rfl, .inl (SqL.of (e7 _ _ ha)), q H7 (Ex.refl H7)⟩
    · exact ⟨b, _, rfl, .inl (SqL.of (e7 _ _ hb)), (by rw [← ln]; exact q H7 (Ex.refl H7))⟩
    · refine ev_is (ev_all (bs := List.replicate xs.length true) (given_eq (el_lcR1 (n := (xs.length : Int)) (fun _ => true) (fun _ => V.bl true) (ea_cons (ev_cb (ea_cons (ev_var rfl) ea_nil) fun H7 e7 Q q => ⟨a, _, rfl, .inl (SqL.of (e7 _ _ ha)), q H7 (Ex.refl H7)⟩) ea_nil) ⟨by omega, by omega⟩ (fun _ => rfl) (fun i H4 _ _ H5 _ Q q => q H5 (Ex.refl H5)) (fun i H6 e hi _ => ?_)))) (by simp)
      have hi2 : i < xs.length := by omega
      have hx : xs[i]? = some xs[i] := List.getElem?_eq_getElem hi2
      have hy : ys[i]? = some (ys[i]'(by omega)) := List.getElem?_eq_getElem (by omega)
      exact ev_call (ea_cons (ev_op (ev_var rfl) (ev_var rfl) (rv_ixL (SqL.of (e _ _ ha)) (atI_nat (j := i) hx))) (ea_cons (ev_op (ev_var rfl) (ev_var rfl) (rv_ixL (SqL.of (e _ _ hb)) (atI_nat (j := i) hy))) ea_nil)) fun H7 e7 => each i _ _ hx hy H7 ((e05.trans e).trans e7)
/-- the same data: flat things, lists and tuples of the same data, at most n deep -/
inductive SameV (H : Hp) : Nat → V → V → Prop
  | flat {n : Nat} {x : V} : flat4 x = true → SameV H n x x
  | lst {n : Nat} {a b : Addr} {xs ys : List V} : H a = some (.lst xs) → H b = some (.lst ys) → xs.length = ys.length → xs.length ≤ 100 → (∀ (i : Nat) (x y : V), xs[i]? = some x → ys[i]? = some y → SameV H n x y) → SameV H (n + 1) (.ref a) (.ref b)
  | tup {n : Nat} {a b : Addr} {xs ys : List V} : H a = some (.tup xs) → H b = some (.tup ys) → xs.length = ys.length → xs.length ≤ 100 → (∀ (i : Nat) (x y : V), xs[i]? = some x → ys[i]? = some y → SameV H n x y) → SameV H (n + 1) (.ref a) (.ref b)
theorem SameV.mono {H H' : Hp} {n : Nat} {x y : V} (s : SameV H n x y) (e : Ex H H') : SameV H' n x y := by
  induction s with
  | flat h => exact .flat h
  | lst a b c d _ ih => exact .lst (e _ _ a) (e _ _ b) c d ih
  | tup a b c d _ ih => exact .tup (e _ _ a) (e _ _ b) c d ih
/-- _law_same(one, other) of the same data -/
def spSameN (n : Nat) : Sp := fun vs H Q _ => ∃ x y : V, vs = [x, y] ∧ SameV H n x y ∧ ∀ H', Ex H H' → Q (.bl true) H'
theorem FnOk.imp {CX : CXT} {k : Nat} {f : Addr} {fd : FuncData} {ps : List Str} {sp1 sp2 : Sp} (F : FnOk P w K mg base CX k f fd ps sp1) (h : ∀ vs H Q E, sp2 vs H Q E → sp1 vs H Q E) : FnOk P w K mg base CX k f fd ps sp2 :=
  ⟨fun vs H Q E z => F.len vs H Q E (h _ _ _ _ z), fun A outer s H args us vs Q E hr e0 b v z => F.run A outer s H args us vs Q E hr e0 b v (h _ _ _ _ z)⟩
theorem okN__law_same (T : Txt P K mg) : ∀ n : Nat, FnOk P w K mg base CX0 (n + 1) T.f__law_same T.d__law_same ["_law_one", "_law_other"] (spSameN n)
  | 0 => FnOk.imp (ok__law_same T) fun vs H Q E h => by
    obtain ⟨x, y, rfl, s, q⟩ := h
    cases s with
    | flat f => exact ⟨x, x, rfl, f, f, fun H2 e2 => by rw [decide_eq_true rfl]; exact q H2 e2⟩
  | n + 1 => FnOk.imp (FnOk_or ((ok__law_same T).mono (by omega)) (FnOk_or (okLG__law_same T (okN__law_same T n)) (okG__law_same T (okN__law_same T n)))) fun vs H Q E h => by
    obtain ⟨x, y, rfl, s, q⟩ := h
    cases s with
    | flat f => exact .inl ⟨x, x, rfl, f, f, fun H2 e2 => by rw [decide_eq_true rfl]; exact q H2 e2⟩
    | lst a b c d each => exact .inr (.inl ⟨_, _, _, _, rfl, a, b, c, d, fun i x y hx hy H2 e2 Q' q' E' => ⟨x, y, rfl, (each i x y hx hy).mono e2, q'⟩, q⟩)
    | tup a b c d each => exact .inr (.inr ⟨_, _, _, _, rfl, a, b, c, d, fun i x y hx hy H2 e2 Q' q' E' => ⟨x, y, rfl, (each i x y hx hy).mono e2, q'⟩, q⟩)
end
section
open Evl
/-! ### comprehensions over texts -/
/-- .. in a tuple of texts -/
theorem el_fmT {σ : L2.St} {H : Hp} {a : Addr} {L : List Str} {tl te : TE} {tt : TT} {j : Nat} {vs : List Nat} (p : Str → Bool) (g : Str → V) (h : Ev tl σ H (.ref a)) (hx : H a = some (.tup (L.map V.str))) (hz : L.length ≤ 40000) (hw : ∀ x, wipe ((wipe σ vs).set j (some x)) vs = wipe σ vs)
    (ht : ∀ z ∈ L, ∀ H1, Ex H H1 → EvT tt ((wipe σ vs).set j (some (.str z))) H1 (p z)) (he : ∀ z ∈ L, p z = true → ∀ H1, Ex H H1 → Ev te ((wipe σ vs).set j (some (.str z))) H1 (g z)) :
    EvL (tLc (iTup K tl) (gName j) tt te vs) σ H ((L.filter p).map g) := fun H0 e Q q => h H0 e _ fun H1 e1 => by
  have e01 := e.trans e1
  refine ⟨a, rfl, ⟨_, st_of (e01 _ _ hx)⟩, fun D nD => lc_tup (K := K) (xs := L.map V.str) (fun i H' => Ex H1 H' ∧ H' D = some (.lst (((L.take i).filter p).map g))) ⟨Ex.new nD, upd_same⟩ (fun i H' _ x => st_of (x.1 _ _ (e01 _ _ hx))) ?_ ?_⟩
  · rintro i x H3 hi ⟨q1, q2⟩
    obtain ⟨z, hz', rfl⟩ := pick_str hi
    have m := List.mem_of_getElem? hz'
    refine ⟨hw _, ?_⟩
    refine ht z m H3 (e01.trans q1) H3 (Ex.refl _) _ fun H4 e4 => ?_
    cases c : p z with
    | true =>
      rw [if_pos rfl]
      refine he z m c H4 ((e01.trans q1).trans e4) H4 (Ex.refl _) _ fun H5 e5 => ⟨_, e5 _ _ (e4 _ _ q2), ?_, Ex.mut ((q1.trans e4).trans e5) nD, ?_⟩
      · rw [List.length_map]
        have l1 := List.length_filter_le p (L.take i)
        have l2 := List.length_take_le' i L
        exact sz_lt (by omega)
      · rw [upd_same, List.take_add_one, hz']
        simp [c]
    | false =>
      rw [if_neg (by decide)]
      refine ⟨q1.trans e4, ?_⟩
      rw [e4 _ _ q2, List.take_add_one, hz']
      simp [c]
  · rintro H3 ⟨q1, q2⟩
    rw [List.length_map, List.take_length] at q2
    exact q D H3 (fresh_back e1 nD) (e1.trans q1) q2
theorem filter_yes (L : List Str) : L.filter (fun _ => true) = L := List.filter_eq_self.mpr fun _ _ => rfl
/-- all([p(z) for z in ..]) -/
theorem all_map (L : List Str) (p : Str → Bool) : ((L.filter (fun _ => true)).map fun z => V.bl (p z)) = (L.map p).map V.bl := by
  rw [filter_yes, List.map_map]
  rfl
theorem ev_fld {C a dx : Addr} {f : Str} {fs : List (Str × V)} {v : V} {σ : L2.St} {H : Hp} {ta : TE} (h : Ev ta σ H (.ref a)) (hx : H a = some (.ins C dx fs)) (cl : Cls K C) (na : NoAttr K C f) (hl : List.lookup f fs = some v) : Ev (tFld K ta f) σ H v :=
  fun H1 e Q q => h H1 e _ fun H2 e2 => ⟨a, C, dx, fs, v, rfl, e2 _ _ (e _ _ hx), cl, na, hl, q H2 e2⟩
/-! ### Clause's own methods -/
/-- a clause at a, its literals -/
def ClAt (C : Addr) (H : Hp) (a : Addr) (D : List Str) : Prop := ∃ dx p, H a = some (.ins C dx [("literals", .ref p)]) ∧ H p = some (.tup (D.map V.str))
theorem ClAt.mono {C : Addr} {H H' : Hp} {a : Addr} {D : List Str} (c : ClAt C H a D) (e : Ex H H') : ClAt C H' a D := by
  obtain ⟨dx, p, h1, h2⟩ := c
  exact ⟨dx, p, e _ _ h1, e _ _ h2⟩
/-- o.literals of a clause -/
theorem ev_lts (T : Txt P K mg) {σ : L2.St} {H : Hp} {te : TE} {a dx p : Addr} (h : Ev te σ H (.ref a)) (hx : H a = some (.ins T.C_Clause dx [("literals", .ref p)])) : Ev (tFld K te "literals") σ H (.ref p) := ev_fld h hx T.cl_Clause T.na_Clause_literals rfl
end
section
open Evl
/-- the same flat thing -/
theorem ev_sN {σ : L2.St} {H : Hp} {ta tb : TE} {n : Nat} {x : V} {E : XK} (ha : Ev ta σ H x) (hb : Ev tb σ H x) (f : flat4 x = true) : Ev (tCall (spSameN n) [] E (tCons ta (tCons tb tNil))) σ H (.bl true) :=
  ev_call (ea_cons ha (ea_cons hb ea_nil)) fun H1 _ Q q E => ⟨x, x, rfl, .flat f, q⟩
/-- tuple(l) of a new list of texts -/
theorem eu_tupL {σ : L2.St} {H : Hp} {te : TE} {xs : List V} (h : EvL te σ H xs) : EvU (tCB (fun xs H Q => ∃ p ys, xs = [.ref p] ∧ ((SqL K H p ys ∧ ∀ l, H l = none → Q (.ref l) (upd H l (.tup ys))) ∨ (SqT K H p ys ∧ Q (.ref p) H))) (tCons te tNil)) σ H xs := fun H1 e1 Q q =>
  h H1 e1 _ fun p H2 np e2 hp => ⟨p, xs, rfl, .inl ⟨SqL.of hp, fun l nl => q l _ (fresh_back e2 nl) (e2.trans (Ex.new nl)) upd_same⟩⟩
end
theorem ord_any (L : List Str) : ∃ N, Ord L N := by
  have perm := List.mergeSort_perm L (fun a b => decide (a.cps.toList ≤ b.cps.toList))
  have srt : (L.mergeSort (fun a b => decide (a.cps.toList ≤ b.cps.toList))).Pairwise leS := by
    have z := List.pairwise_mergeSort (le := fun a b => decide (a.cps.toList ≤ b.cps.toList)) (fun a b c h1 h2 => by
      simp only [decide_eq_true_eq] at h1 h2 ⊢
      exact leS_trans h1 h2) (fun a b => by
      simp only [Bool.or_eq_true, decide_eq_true_eq]
      exact List.le_total _ _) L
    exact z.imp fun h => of_decide_eq_true h
  obtain ⟨a, b, c⟩ := dd_spec (L.mergeSort (fun a b => decide (a.cps.toList ≤ b.cps.toList))) [] .nil srt
  exact ⟨_, a, b, fun x => by rw [c x, perm.mem_iff]; simp⟩
section
open Evl
/-- a list somewhere -/
def EvLs (te : TE) (σ : L2.St) (H : Hp) (xs : List V) : Prop := ∀ H1, Ex H H1 → ∀ Q : VK, (∀ p H2, Ex H1 H2 → H2 p = some (.lst xs) → Q (.ref p) H2) → te σ H1 Q
theorem els_new {te : TE} {σ : L2.St} {H : Hp} {xs : List V} (h : EvL te σ H xs) : EvLs te σ H xs := fun H1 e1 Q q => h H1 e1 Q fun p H2 _ e2 hp => q p H2 e2 hp
theorem els_at {te : TE} {σ : L2.St} {H : Hp} {xs : List V} {p : Addr} (h : Ev te σ H (.ref p)) (hp : H p = some (.lst xs)) : EvLs te σ H xs := fun H1 e1 Q q => h H1 e1 Q fun H2 e2 => q p H2 e2 (e2 _ _ (e1 _ _ hp))
theorem el_cat {ta tb : TE} {σ : L2.St} {H : Hp} {xs ys : List V} (h1 : EvLs ta σ H xs) (h2 : EvLs tb σ H ys) (len : xs.length + ys.length ≤ 100000) : EvL (tOp rCat ta tb) σ H (xs ++ ys) := fun H1 e1 Q q =>
  h1 H1 e1 _ fun p H2 e2 hp => h2 H2 (e1.trans e2) _ fun r H3 e3 hr => ⟨p, r, xs, ys, rfl, rfl, e3 _ _ hp, hr, sz_of len, fun l nl => q l _ (fresh_back (e2.trans e3) nl) ((e2.trans e3).trans (Ex.new nl)) upd_same⟩
end
section
open Evl
theorem flip_lit {z : Str} (h : isLit z = true) : isLit (flip z) = true := by
  cases d : dash z with
  | true => rw [flip_dash d]; exact name_lit h
  | false =>
    rw [flip_no d]
    have e : isName (bare z) = true := h
    rw [bare_no d] at e
    exact minus_lit e
theorem lit_txt {z : Str} (h : isLit z = true) : Txt8 10 z := by
  have n : isName (bare z) = true := h
  rcases lit_form (z := z) with e | e
  · rw [e]; exact (name_txt n).mono (by decide)
  · rw [e]; exact ((show Txt8 1 "-" from ⟨by decide, by decide⟩).app (name_txt n)).mono (by decide)
theorem empty_app (z : Str) : "" ++ z = z := str_eq (by rw [app_codes]; rfl)
/-- a row: literals of different names, at most n -/
structure RowL (n : Nat) (L : List Str) : Prop where
  few : L.length ≤ n
  lit : ∀ z ∈ L, isLit z = true
  apart : (L.map bare).Nodup
theorem RowL.mono {n m : Nat} {L : List Str} (r : RowL n L) (h : n ≤ m) : RowL m L := ⟨Nat.le_trans r.few h, r.lit, r.apart⟩
theorem RowL.nil : RowL 0 [] := ⟨Nat.le_refl _, (fun z hz => (by cases hz)), List.nodup_nil⟩
theorem bare_out {L : List Str} {n : Str} (h1 : n ∉ L) (h2 : ("-" ++ n) ∉ L) : n ∉ L.map bare := fun h => by
  obtain ⟨z, hz, e⟩ := List.mem_map.mp h
  rcases lit_form (z := z) with q | q
  · rw [e] at q; rw [q] at hz; exact h1 hz
  · rw [e] at q; rw [q] at hz; exact h2 hz
theorem RowL.add {n : Nat} {L : List Str} {z : Str} (r : RowL n L) (hz : isLit z = true) (h : bare z ∉ L.map bare) : RowL (n + 1) (L ++ [z]) :=
  ⟨by rw [List.length_append, List.length_singleton]; have := r.few; omega, fun y hy => by
    rcases List.mem_append.mp hy with q | q
    · exact r.lit y q
    · rw [List.mem_singleton.mp q]; exact hz, by
    rw [List.map_append, List.nodup_append]
    refine ⟨r.apart, by simp, fun a ha b hb => ?_⟩
    rw [List.map_cons, List.map_nil, List.mem_singleton] at hb
    intro e
    rw [e, hb] at ha
    exact h ha⟩
/-- _law_row(source, names, most) -/
def spRow : Sp := fun vs H Q _ => ∃ (a l : Addr) (ns : List Int) (b : Addr) (nms : List Str) (m : Nat), vs = [.ref a, .ref b, .int (m : Int)] ∧ m ≤ 20 ∧ SrcL H a l ns ∧ H b = some (.lst (nms.map V.str)) ∧ b ≠ a ∧ 0 < nms.length ∧ nms.length ≤ 40 ∧ (∀ z ∈ nms, isName z = true) ∧
  ∀ (H' : Hp) (p : Addr) (L : List Str), H p = none → SrcL H' a l ns → But a H H' → H' p = some (.lst (L.map V.str)) → RowL m L → (∀ z ∈ L, bare z ∈ nms) → Q (.ref p) H'
theorem ok__law_row (T : Txt P K mg) : FnOk P w K mg base CX0 2 T.f__law_row T.d__law_row ["_law_source_here", "_law_names_here", "_law_most"] spRow := by
  refine T.F__law_row.ok sc__law_row (fun vs H Q E h => ?_) (fun cdv A outer s H vs Q E hr h => ?_)
  · obtain ⟨a, l, ns, b, nms, m, rfl, _⟩ := h
    rfl
  · obtain ⟨a, l, ns, b, nms, m, rfl, m20, S, hb, ba, n0, n40, nm, q⟩ := h
    refine ⟨_, (pss_cons (ps_set (i := 3) sc__law_row.nd rfl (.inl rfl) (pe_lst pa_nil))
      (pss_cons (ps_for PassesOwn.never rfl (pi_range1 rfl T.n_range (pa_cons (pe_call (okL__law_take T) (hr.mono (by decide)) rfl T.g__law_take T.F__law_take.kp T.b__law_take .nil pass0 (pa_cons (pv 0) (pa_cons (pe_op op_add (pv 2) pe_int) pa_nil))) pa_nil)) (pg_name (i := 4) sc__law_row.nd rfl (.inl rfl)) (pss_cons (ps_set (i := 5) sc__law_row.nd rfl (.inl rfl) (pe_ix ix_list (pv 1) (pe_call (okL__law_take T) (hr.mono (by decide)) rfl T.g__law_take T.F__law_take.kp T.b__law_take .nil pass0 (pa_cons (pv 0) (pa_cons (pe_callB call_len_seq (by rfl) T.n_len PySem.boot_len (pa_cons (pv 1) pa_nil)) pa_nil))) (fun _ _ => rfl)))
      (pss_one (ps_if (PW.pt (pw_and (pt_cmpR op_notIn_seq (pv 5) (pv 3) (by rfl)) (pw_and1 (pt_cmpR op_notIn_seq (pe_op op_add_str pe_str (pv 5)) (pv 3) (by rfl))))) (pss_one (ps_expr (pe_bm PySem.F.plainAttrs_list PySem.F.slot_list_append PySem.F.type_list_append mt_append (pv 3) (pa_cons (pe_op op_add_str (pe_ix ix_list (pe_lst (pa_cons pe_str (pa_cons pe_str pa_nil))) (pe_call (okL__law_take T) (hr.mono (by decide)) rfl T.g__law_take T.F__law_take.kp T.b__law_take .nil pass0 (pa_cons (pv 0) (pa_cons pe_int pa_nil))) (fun _ _ => rfl)) (pv 5)) pa_nil)))) pss_nil))))
      (pss_one (ps_ret (pv 3))))), ?_⟩
    refine ⟨(by show 0 ≤ sizeLine; decide), fun p np => ?_⟩
    have offp := srl_off S np
    refine ⟨.ref a, rfl, _, rfl, _, _, rfl, rfl, a, _, l, ns, rfl, srl_new S np, by omega, by omega, fun H1 r r0 r1 S1 B1 => ?_⟩
    have B01 : But a H H1 := fun c o n e => B1 c o n (by rw [upd_ne (ne_of_none e np)]; exact e)
    refine ⟨r, rfl, by omega, by omega, for_range (lo := 0) (n := r.toNat) (fun i σ H' => ∃ (L : List Str) (v4 v5 : Option V), σ = [some (V.ref a), some (.ref b), some (.int (m : Int)), some (.ref p), v4, v5] ∧ SrcL H' a l ns ∧ But a H H' ∧ H' p = some (.lst (L.map V.str)) ∧ RowL i L ∧ ∀ z ∈ L, bare z ∈ nms)
      ⟨[], _, _, rfl, S1, B01, B1 p _ offp.1 upd_same, RowL.nil, fun z hz => nomatch hz⟩ ?_ ?_⟩
    · rintro i σ H3 hi ⟨L, v4, v5, rfl, S3, B3, h3, row, ins⟩
      have hb3 := B3 b _ ba hb
      refine ⟨.ref b, rfl, .ref a, rfl, .ref b, rfl, b, _, rfl, .inl (SqL.of hb3), a, _, l, ns, rfl, S3, (by rw [List.length_map]; omega), (by rw [List.length_map]; omega), fun H4 k k0 k1 S4 B4 => ?_⟩
      rw [List.length_map] at k1
      have hb4 := B4 b _ ba hb3
      have h4 := B4 p _ offp.1 h3
      have B04 := B3.trans B4
      have kl : k.toNat < nms.length := by omega
      have hk : (nms.map V.str)[k.toNat]? = some (.str nms[k.toNat]) := by rw [List.getElem?_map, List.getElem?_eq_getElem kl] <;> rfl
      have mn : nms[k.toNat] ∈ nms := List.getElem_mem kl
      have nk := nm nms[k.toNat] mn
      generalize nms[k.toNat] = n at hk nk mn
      have ns := (name_txt nk).1
      refine ⟨b, _, k, _, rfl, rfl, SqL.of hb4, at_of (by omega) hk, ?_⟩
      refine s_when (b := !decide (n ∈ L) && !decide (("-" ++ n) ∈ L)) (et_and (et_test (ev_niStr (ev_var rfl) (ev_var rfl) h4)) (fun _ => et_test (ev_niStr (ev_op (y := .str n) ev_c (ev_var rfl) (fun H5 _ Q q => ⟨"-", n, rfl, rfl, line_of (minus_len (by omega)), q H5 (Ex.refl H5)⟩)) (ev_var rfl) h4))) (fun c H5 e5 => ?_) (fun c H5 e5 => ?_)
      · have c1 : n ∉ L := by
          intro h
          rw [decide_eq_true h] at c
          cases c
        have c2 : ("-" ++ n) ∉ L := by
          intro h
          rw [decide_eq_true h, Bool.and_comm] at c
          cases c
        have S5 := srl_ex S4 e5
        have h5 := e5 _ _ h4
        have B05 : But a H H5 := fun c o n e => e5 _ _ (B04 c o n e)
        refine ⟨.ref p, rfl, Or.inl ⟨rfl, _, SqL.of h5⟩, ?_⟩
        refine ⟨(by show 2 ≤ sizeLine; decide), fun d nd => ⟨.ref a, rfl, a, 2, l, _, rfl, srl_new S5 nd, by decide, by decide, fun H6 t t0 t1 S6 B6 => ?_⟩⟩
        have offd := srl_off S5 nd
        have dp : d ≠ p := fun e => by rw [e, h5] at nd; cases nd
        have hd6 : H6 d = some (.lst [.str "", .str "-"]) := B6 d _ offd.1 upd_same
        have h6 : H6 p = some (.lst (L.map V.str)) := B6 p _ offp.1 (by rw [upd_ne dp.symm]; exact h5)
        have B06 : But a H H6 := B05.trans fun c o n e => B6 c o n (by rw [upd_ne (ne_of_none e nd)]; exact e)
        obtain ⟨ds, hds, dd2⟩ : ∃ ds : Str, ([V.str "", .str "-"] : List V)[t.toNat]? = some (.str ds) ∧ (ds = "" ∨ ds = "-") := by
          have h2 : t = 0 ∨ t = 1 := by omega
          rcases h2 with rfl | rfl
          · exact ⟨"", rfl, .inl rfl⟩
          · exact ⟨"-", rfl, .inr rfl⟩
        have z9 : isLit (ds ++ n) = true ∧ bare (ds ++ n) = n := by
          rcases dd2 with rfl | rfl
          · rw [empty_app]; exact ⟨name_lit nk, bare_no (name_dash nk)⟩
          · exact ⟨minus_lit nk, bare_minus n⟩
        have d1 : ds.length ≤ 1 := by rcases dd2 with rfl | rfl <;> decide
        refine ⟨d, _, t, _, rfl, rfl, SqL.of hd6, at_of (by omega) hds, _, rfl, _, _, rfl, rfl, line_of ?_, p, _, _, rfl, rfl, h6, ?_, ?_⟩
        · have h2 : n.length = n.cps.size := rfl
          omega
        · rw [List.length_map]; have := row.few; exact Evl.sz_lt (by omega)
        · exact ⟨L ++ [ds ++ n], _, _, rfl, srl_put S6 offp.1 offp.2, B06.upd2 np, by rw [upd_same, List.map_append] <;> rfl, row.add z9.1 (by rw [z9.2]; exact bare_out c1 c2), fun z hz => by
            rcases List.mem_append.mp hz with u | u
            · exact ins z u
            · rw [List.mem_singleton.mp u, z9.2]; exact mn⟩
      · exact ⟨L, _, _, rfl, srl_ex S4 e5, fun c o n e => e5 _ _ (B04 c o n e), e5 _ _ h4, row.mono (by omega), ins⟩
    · rintro σ H3 ⟨L, v4, v5, rfl, S3, B3, h3, row, ins⟩
      exact ⟨_, rfl, q H3 p L np S3 B3 h3 (row.mono (by omega)) ins⟩
end
section
open Evl
theorem passN0 {X : Cx} : Passes (L2N.CX X.prog X.w) X E0 := fun _ _ _ _ _ _ _ h => by
  obtain ⟨a, B, H', cls, d, _, _, _, _, _, _, _, he⟩ := h
  exact he.elim
end
section
open Evl
/-! ### names, positives, str of a clause -/
theorem ev_litC {C : Addr} {g : Str → V} {σ : L2.St} {H : Hp} {te : TE} {z : Str} (h : Ev te σ H (.str z)) (hz : z.cps.size ≤ 50) (hc : ∀ c ∈ z.cps.toList, c < 128) (hl : isLit z = true) : Ev (tCall (spLit C g) [] E0 (tCons te tNil)) σ H (g z) :=
  ev_call (ea_cons h ea_nil) fun H1 _ Q q E => ⟨z, rfl, hz, hc, fun _ H2 e2 => q H2 e2, fun no => absurd hl (by rw [no]; decide)⟩
/-- literals of a clause, good enough for its reports -/
def LitsOk (D : List Str) : Prop := D.length ≤ 12 ∧ ∀ z ∈ D, isLit z = true ∧ Txt8 20 z
def spCNames (C : Addr) : Sp := fun vs H Q _ => ∃ (a : Addr) (D : List Str), vs = [.ref a] ∧ ClAt C H a D ∧ LitsOk D ∧ ∀ H' p, Ex H H' → H p = none → H' p = some (.tup ((D.map bare).map V.str)) → Q (.ref p) H'
theorem ok_Clause_names (T : Txt P K mg) : FnOk P w K mg base CX0 5 T.f_Clause_names T.d_Clause_names ["self"] (spCNames T.C_Clause) := by
  refine T.F_Clause_names.ok sc_Clause_names (fun vs H Q E h => ?_) (fun cdv A outer s H vs Q E hr h => ?_)
  · obtain ⟨a, D, rfl, _⟩ := h
    rfl
  · obtain ⟨a, D, rfl, ⟨dx, p, ha, hp⟩, ⟨few, lit⟩, q⟩ := h
    refine ⟨_, (pss_one (ps_ret (pe_callTy call_tuple_of (by rfl) T.n_tuple (by decide +kernel) (pa_cons (pe_lc (own := [("literal", 1)]) (g := gName 1) (by rfl) sc_Clause_names.nd (pi_tup (pe_fld (pv 0) rfl)) (blkOk_by (own := [("literal", 1)]) (N := N_Clause_names) (sc := defScope s_Clause_names) (by decide +kernel)) (fun _ _ _ _ _ => pg_name (i := 1) sc_Clause_names.nd rfl (Or.inl rfl)) (fun _ _ _ _ _ => pts_nil) (fun _ _ _ _ _ => (pe_call (ok_name_of T) (hr.mono (by decide)) rfl T.g_name_of T.F_name_of.kp T.b_name_of .nil passN0 (pa_cons (pv 1) pa_nil)))) pa_nil)))), ?_⟩
    have body : EvL (tLc (iTup K (tFld K (tVar 0) "literals")) (gName 1) tYes (tCall (spLit T.C_BadLiteral fun z => .str (bare z)) [] E0 (tCons (tVar 1) tNil)) [1]) [some (V.ref a), none] H ((D.map bare).map V.str) := by
      have z := el_fmT (K := K) (σ := [some (V.ref a), none]) (j := 1) (vs := [1]) (te := tCall (spLit T.C_BadLiteral fun z => .str (bare z)) [] E0 (tCons (tVar 1) tNil)) (fun _ => true) (fun z => V.str (bare z)) (ev_lts T (ev_var (i := 0) (σ := [some (V.ref a), none]) rfl) ha) hp (by omega) (fun _ => rfl) (fun _ _ _ _ => et_yes) (fun z m _ H3 e3 => ev_litC (ev_var rfl) (Nat.le_trans (lit z m).2.1 (by decide)) (lit z m).2.2 (lit z m).1)
      rw [filter_yes] at z
      rw [List.map_map]
      exact z
    exact s_retU (eu_tupL body) fun t H1 nt e1 ht => q H1 t e1 nt ht
end
theorem bothIn_cong {A B : List Str} (h : ∀ z, z ∈ A ↔ z ∈ B) : bothIn A = bothIn B := by
  funext n
  unfold bothIn
  rw [decide_eq_decide.mpr (h n), decide_eq_decide.mpr (h ("-" ++ n))]
theorem due_cong {A B N : List Str} (h : ∀ z, z ∈ A ↔ z ∈ B) : due A N = due B N := by
  have e : pick A = pick B := by
    funext n
    unfold pick
    refine List.filter_congr fun z _ => ?_
    exact decide_eq_decide.mpr (h z)
  unfold due
  rw [e]
section
open Evl
theorem inj_nodup {L : List Str} : (L.map bare).Nodup → ∀ x ∈ L, ∀ y ∈ L, bare x = bare y → x = y := by
  induction L with
  | nil => intro _ x hx; cases hx
  | cons a r ih =>
    intro nd x hx y hy e
    rw [List.map_cons, List.nodup_cons] at nd
    obtain ⟨n1, n2⟩ := nd
    have out : ∀ {u : Str}, u ∈ r → bare u ≠ bare a := fun hu q => n1 (List.mem_map.mpr ⟨_, hu, q⟩)
    rcases List.mem_cons.mp hx with q1 | q1
    · rcases List.mem_cons.mp hy with q2 | q2
      · rw [q1, q2]
      · rw [q1] at e; exact (out q2 e.symm).elim
    · rcases List.mem_cons.mp hy with q2 | q2
      · rw [q2] at e; exact (out q1 e).elim
      · exact ih n2 x q1 y q2 e
theorem nodup_of_map {L : List Str} (h : (L.map bare).Nodup) : L.Nodup := by
  induction L with
  | nil => exact List.nodup_nil
  | cons a r ih =>
    rw [List.map_cons, List.nodup_cons] at h
    exact List.nodup_cons.mpr ⟨fun m => h.1 (List.mem_map.mpr ⟨a, m, rfl⟩), ih h.2⟩
theorem minus_ne (n : Str) : ("-" ++ n) ≠ n := fun e => by
  have z := congrArg (fun x : Str => x.cps.toList.length) e
  simp only [minus_codes, List.length_cons] at z
  omega
theorem RowL.one {k : Nat} {L : List Str} (r : RowL k L) (n : Str) : bothIn L n = false := by
  cases e : bothIn L n with
  | false => rfl
  | true =>
    unfold bothIn at e
    obtain ⟨a, b⟩ := Bool.and_eq_true_iff.mp e
    have h1 := of_decide_eq_true a
    have h2 := of_decide_eq_true b
    have ln := r.lit _ h2
    have nm : isName n = true := by have z := lit_bare ln; rwa [bare_minus] at z
    have eb : bare ("-" ++ n) = bare n := by rw [bare_minus, bare_no (name_dash nm)]
    exact absurd (inj_nodup r.apart _ h2 _ h1 eb) (minus_ne n)
theorem due_nodup {L N : List Str} (nd : N.Nodup) (h : ∀ n ∈ N, dash n = false) : (due L N).Nodup := by
  unfold due List.Nodup
  rw [List.pairwise_flatMap]
  refine ⟨fun n hn => ?_, ?_⟩
  · have two : ([n, "-" ++ n] : List Str).Nodup := by
      refine List.nodup_cons.mpr ⟨fun m => ?_, by simp⟩
      exact minus_ne n (List.mem_singleton.mp m).symm
    exact two.sublist List.filter_sublist
  · refine List.Pairwise.imp_of_mem (fun {a b} ha hb ne x hx y hy e => ?_) nd
    have e1 := (bare_pick (h a ha) hx).1
    have e2 := (bare_pick (h b hb) hy).1
    rw [e, e2] at e1
    exact ne e1.symm
theorem RowL.ndash {k : Nat} {L N : List Str} (r : RowL k L) (od : Ord (L.map bare) N) : ∀ n ∈ N, dash n = false := fun n hn => by
  obtain ⟨z, hz, rfl⟩ := List.mem_map.mp ((od.mem n).mp hn)
  exact name_dash (lit_bare (r.lit z hz))
theorem RowL.due_len {k : Nat} {L N : List Str} (r : RowL k L) (od : Ord (L.map bare) N) : (due L N).length = L.length :=
  Nat.le_antisymm (perm_len_le (due_nodup od.nd (r.ndash od)) fun x hx => (due_mem od x).mp hx) (perm_len_le (nodup_of_map r.apart) fun x hx => (due_mem od x).mpr hx)
theorem mem_bare {A B : List Str} (h : ∀ x, x ∈ A ↔ x ∈ B) (n : Str) : n ∈ A.map bare ↔ n ∈ B.map bare := by
  rw [List.mem_map, List.mem_map]
  exact ⟨fun ⟨z, a, b⟩ => ⟨z, (h z).mp a, b⟩, fun ⟨z, a, b⟩ => ⟨z, (h z).mpr a, b⟩⟩
/-- a clause of the texts of L is made, where these are the literals of the row R -/
theorem mkl_row {C CB CS CT : Addr} {L R N : List Str} {H : Hp} {Q : VK} {E : XK} (row : RowL 6 R) (h : ∀ z, z ∈ L ↔ z ∈ R) (od : Ord (R.map bare) N) (k : ∀ x H', Ex H H' → ClAt C H' x (due R N) → Q (.ref x) H') : MkL C CB CS CT L H Q E where
  bad pre z post e yes no := absurd (row.lit z ((h z).mp (by rw [e]; simp))) (by rw [no]; decide)
  sign lits N' od' n fn := by
    have z := List.find?_some fn
    rw [bothIn_cong h, row.one] at z
    cases z
  many lits N' od' fn big := by
    rw [due_cong h, (od'.uniq od (mem_bare h)), row.due_len od] at big
    exact absurd row.few (by omega)
  good lits N' od' fn small H' x dx p e hx hp := by
    rw [due_cong h, (od'.uniq od (mem_bare h))] at hp
    exact k x H' e ⟨dx, p, hx, hp⟩
/-- a clause somewhere -/
def EvC (C : Addr) (te : TE) (σ : L2.St) (H : Hp) (D : List Str) : Prop := ∀ H1, Ex H H1 → ∀ Q : VK, (∀ x H2, Ex H1 H2 → ClAt C H2 x D → Q (.ref x) H2) → te σ H1 Q
theorem RowL.txt {k : Nat} {L : List Str} (r : RowL k L) : ∀ z ∈ L, Txt8 20 z := fun z hz => (lit_txt (r.lit z hz)).mono (by decide)
/-- _law_clause(row) -/
theorem ec_clause {C CB CS CT : Addr} {σ : L2.St} {H : Hp} {te : TE} {L N : List Str} {r : Addr} (h : Ev te σ H (.ref r)) (hr : H r = some (.lst (L.map V.str))) (row : RowL 6 L) (od : Ord (L.map bare) N) :
    EvC C (tCall (spClause C CB CS CT 6) [] E0 (tCons te tNil)) σ H (due L N) := fun H1 e1 Q q => h H1 e1 _ fun H2 e2 => ⟨r, L, rfl, e2 _ _ (e1 _ _ hr), row.few, row.txt, mkl_row row (fun _ => Iff.rfl) od fun x H3 e3 c => q x H3 (e2.trans e3) c⟩
end
section
open Evl
theorem eu_namesC {C : Addr} {σ : L2.St} {H : Hp} {te : TE} {a : Addr} {D : List Str} {E : XK} (h : Ev te σ H (.ref a)) (c : ClAt C H a D) (ok : LitsOk D) : EvU (tProp C (spCNames C) [] E te) σ H ((D.map bare).map V.str) := fun H1 e1 Q q =>
  h H1 e1 _ fun H2 e2 => by
    have c2 := (c.mono e1).mono e2
    obtain ⟨dx, p, ha, hp⟩ := id c2
    exact ⟨a, dx, _, rfl, ha, a, D, rfl, c2, ok, fun H3 t e3 nt ht => q t H3 (fresh_back e2 nt) (e2.trans e3) ht⟩
/-- clauses, each with its literals, somewhere -/
def ClsAt (C : Addr) (H : Hp) (cs : List (Addr × List Str)) : Prop := ∀ c ∈ cs, ClAt C H c.1 c.2 ∧ LitsOk c.2
theorem ClsAt.mono {C : Addr} {H H' : Hp} {cs : List (Addr × List Str)} (h : ClsAt C H cs) (e : Ex H H') : ClsAt C H' cs := fun c m => ⟨(h c m).1.mono e, (h c m).2⟩
theorem str_inj : ∀ {L M : List Str}, L.map V.str = M.map V.str → L = M
  | [], [], _ => rfl
  | [], _ :: _, h => by cases h
  | _ :: _, [], h => by cases h
  | x :: L, y :: M, h => by
    rw [List.map_cons, List.map_cons] at h
    injection h with h1 h2
    injection h1 with h1
    rw [h1, str_inj h2]
theorem ClAt.one {C : Addr} {H : Hp} {a : Addr} {D D' : List Str} (h : ClAt C H a D) (h' : ClAt C H a D') : D = D' := by
  obtain ⟨dx, p, h1, h2⟩ := h
  obtain ⟨dy, q, h3, h4⟩ := h'
  rw [h1] at h3
  cases h3
  rw [h2] at h4
  injection h4 with h4
  injection h4 with h4
  exact str_inj h4
/-- the names of the clause that a value is -/
def namesIn (cs : List (Addr × List Str)) : V → List V
  | .ref a => match cs.find? (fun c => c.1 == a) with | some c => (c.2.map bare).map V.str | none => []
  | _ => []
theorem namesIn_of {C : Addr} {H : Hp} {cs : List (Addr × List Str)} (h : ClsAt C H cs) {c : Addr × List Str} (m : c ∈ cs) : namesIn cs (.ref c.1) = (c.2.map bare).map V.str := by
  show (match cs.find? (fun x => x.1 == c.1) with | some c => (c.2.map bare).map V.str | none => []) = _
  cases e : cs.find? (fun x => x.1 == c.1) with
  | none => exact absurd (List.find?_eq_none.mp e c m) (by simp)
  | some d =>
    have md := List.mem_of_find?_eq_some e
    have q : d.1 = c.1 := by simpa using List.find?_some e
    have h1 := (h d md).1
    rw [q] at h1
    show (d.2.map bare).map V.str = _
    rw [ClAt.one h1 (h c m).1]
/-- all the names of clauses, as they come -/
def allNames (cs : List (Addr × List Str)) : List Str := cs.flatMap fun c => c.2.map bare
theorem namesIn_all {C : Addr} {H : Hp} {cs : List (Addr × List Str)} (h : ClsAt C H cs) : (cs.map fun c => V.ref c.1).flatMap (namesIn cs) = (allNames cs).map V.str := by
  have go : ∀ ds : List (Addr × List Str), (∀ c ∈ ds, c ∈ cs) → (ds.map fun c => V.ref c.1).flatMap (namesIn cs) = (allNames ds).map V.str := by
    intro ds
    induction ds with
    | nil => intro _; rfl
    | cons d r ih =>
      intro hm
      unfold allNames
      rw [List.map_cons, List.flatMap_cons, List.flatMap_cons, List.map_append, namesIn_of h (hm d List.mem_cons_self), ih fun c m => hm c (List.mem_cons_of_mem _ m)]
      rfl
  exact go cs fun _ m => m
def spNin (C : Addr) : Sp := fun vs H Q _ => ∃ (l : Addr) (cs : List (Addr × List Str)), vs = [.ref l] ∧ H l = some (.lst (cs.map fun c => V.ref c.1)) ∧ ClsAt C H cs ∧ (allNames cs).length + 1 < 4096 ∧
  ∀ H' p ss, Ex H H' → H p = none → ss.Perm (putL (allNames cs)) → sortedS ss = true → H' p = some (.lst (ss.map V.str)) → Q (.ref p) H'
theorem ok_names_in (T : Txt P K mg) : FnOk P w K mg base CX0 7 T.f__names_in T.d__names_in ["clauses"] (spNin T.C_Clause) := by
  refine T.F__names_in.ok sc__names_in (fun vs H Q E h => ?_) (fun cdv A outer s H vs Q E hr h => ?_)
  · obtain ⟨a, ns, rfl, _⟩ := h
    rfl
  · obtain ⟨l, cs, rfl, hl, hc, few, q⟩ := h
    refine ⟨_, (pss_one (ps_ret (pe_callB (cr_srtS rfl) (by rfl) T.n_sorted (by decide +kernel) (pa_cons (pe_callTy (cr_setS rfl) (by rfl) T.n_set (by decide +kernel) (pa_cons (pe_lc2 (own := [("clause", 1), ("name", 2)]) (vs1 := [2]) (wi1 := iTup K (tProp T.C_Clause (spCNames T.C_Clause) [] E0 (tVar 1))) (g := gName 1) (g1 := gName 2) (by rfl) sc__names_in.nd (pi_list (pv 0)) (blkOk_by (own := [("clause", 1), ("name", 2)]) (N := N__names_in) (sc := defScope s__names_in) (by decide +kernel)) (by decide)
      (fun _ _ _ _ _ => pg_name (i := 1) sc__names_in.nd rfl (Or.inl rfl)) (fun _ _ _ _ _ => pts_nil) (fun _ _ _ _ _ => pi_tup (pe_prop (pv 1) T.cl_Clause T.P_Clause_names (ok_Clause_names T) (hr.mono (by decide)) T.b_Clause_names .nil pass0 (by rfl)))
      (fun _ _ _ _ _ => pg_name (i := 2) sc__names_in.nd rfl (Or.inl rfl)) (fun _ _ _ _ _ => pts_nil) (fun _ _ _ _ _ => (pv 2))) pa_nil)) pa_nil)))), ?_⟩
    have body : EvL (tLc2 (iList K (tVar 0)) (gName 1) tYes (iTup K (tProp T.C_Clause (spCNames T.C_Clause) [] E0 (tVar 1))) (gName 2) tYes (tVar 2) [1, 2] [2]) [some (V.ref l), none, none] H ((cs.map fun c => V.ref c.1).flatMap (namesIn cs)) :=
      el_lc2 (K := K) (ys := cs.map fun c => V.ref c.1) (namesIn cs) (ev_var rfl) (sq_of hl) (by rw [namesIn_all hc, List.length_map]; omega) (fun _ => rfl) (fun _ _ => rfl) (fun y hy H1 e1 => by
        obtain ⟨c, m, rfl⟩ := List.mem_map.mp hy
        rw [namesIn_of hc m]
        exact eu_namesC (ev_var rfl) ((hc c m).1.mono e1) (hc c m).2) (fun y hy x hx H1 e1 => ev_var rfl)
    rw [namesIn_all hc] at body
    show tLc2 (iList K (tVar 0)) (gName 1) tYes (iTup K (tProp T.C_Clause (spCNames T.C_Clause) [] E0 (tVar 1))) (gName 2) tYes (tVar 2) [1, 2] [2] [some (V.ref l), none, none] H (fun v H1 => rSetS _ [v] H1 fun v2 H2 => rSrtS _ [v2] H2 fun v3 H3 => Q v3 H3)
    refine body H (Ex.refl H) _ fun l2 H1 n1 e1 h1 => ?_
    refine ⟨l2, allNames cs, rfl, SqL.of h1, few, fun p np => ?_⟩
    refine ⟨p, putL (allNames cs), rfl, upd_same, putL_nd _, Nat.lt_of_le_of_lt (putL_len _) (by omega), fun ss r perm srt nr => ?_⟩
    have e2 : Ex H1 (upd (upd H1 p (SetSO P w p (putL (allNames cs)))) r (.lst (ss.map V.str))) := (Ex.new np).trans (Ex.new nr)
    exact q _ r ss (e1.trans e2) (fresh_back e1 (fresh_back (Ex.new np) nr)) perm srt upd_same
end
section
open Evl
def spChn (C CT : Addr) : Sp := fun vs H Q E => ∃ (l : Addr) (cs : List (Addr × List Str)), vs = [.ref l] ∧ H l = some (.lst (cs.map fun c => V.ref c.1)) ∧ ClsAt C H cs ∧ (allNames cs).length + 1 < 4096 ∧
  ((putL (allNames cs)).length ≤ 12 → ∀ H', Ex H H' → Q .non H') ∧ (12 < (putL (allNames cs)).length → ∀ H' d, Ex H H' → H' d = some (.xd [("limit", .int 12)]) → E (.ref CT) (some d) H')
theorem ok_check_names (T : Txt P K mg) : FnOk P w K mg base (L2N.CX P w) 8 T.f__check_names T.d__check_names ["clauses"] (spChn T.C_Clause T.C_TooMany) := by
  refine T.F__check_names.okN sc__check_names (fun vs H Q E h => ?_) (fun cdv A outer s H vs Q E hr h => ?_)
  · obtain ⟨a, cs, rfl, _⟩ := h
    rfl
  · obtain ⟨l, cs, rfl, hl, hc, few, good, bad⟩ := h
    obtain ⟨u0, V0⟩ := T.V_Book_NAMES
    refine ⟨_, (pss_one (ps_if (pt_cmpR op_gt (pe_callB call_len_seq (by rfl) T.n_len PySem.boot_len (pa_cons (pe_call (ok_names_in T) (hr.mono (by decide)) rfl T.g__names_in T.F__names_in.kp T.b__names_in .nil pass0 (pa_cons (pv 0) pa_nil)) pa_nil)) (ClX.pe_cval (pe_glob (v := .ref T.C_Book) rfl T.g_Book rfl)) (nomark _))
      (pss_one (L2N.ps_raise rfl (L2N.takes_of rfl rfl rfl rfl) (pmk1 T.E_TooMany rfl fld_limit T.o_TooMany hr (pa_cons (ClX.pe_cval (pe_glob (v := .ref T.C_Book) rfl T.g_Book rfl)) pa_nil) rfl (by decide)))) pss_nil)), ?_⟩
    refine ⟨_, rfl, l, cs, rfl, hl, hc, few, fun H1 p ss e1 np pm srt hp => ?_⟩
    have hlen : (ss.map V.str).length = (putL (allNames cs)).length := by rw [List.length_map, pm.length_eq]
    refine ⟨p, _, rfl, .inl (SqL.of hp), T.C_Book, .type "type", .int 12, u0, rfl, T.R_Book, V0, _, _, rfl, rfl, _, rfl, ite2 (fun big => ?_) (fun big => ?_)⟩
    · have big2 : 12 < (putL (allNames cs)).length := by
        have z := of_decide_eq_true big
        rw [hlen] at z
        omega
      refine ⟨T.C_Book, .type "type", .int 12, u0, rfl, T.R_Book, V0, _, rfl, fun u hu => ?_, fun d nd => bad big2 _ d (e1.trans (Ex.new nd)) upd_same⟩
      obtain ⟨tk, rfl⟩ := hu
      exact msg_ci fld_limit (by decide) (by decide) (by decide)
    · have big2 : (putL (allNames cs)).length ≤ 12 := Nat.le_of_not_lt fun h => big (decide_eq_true (by rw [hlen]; omega))
      exact good big2 H1 e1
end
section
open Evl
/-- _check_room(placed, clause), room or not -/
def spRoomG (C CT : Addr) : Sp := fun vs H Q E => ∃ (d a : Addr) (D : List Str) (ps : List (Key × Addr × List Str)), vs = [.ref d, .ref a] ∧ H d = some (.dK (ps.map fun p => (p.1, V.ref p.2.1))) ∧ ClsAt C H (ps.map (·.2) ++ [(a, D)]) ∧ ps.length ≤ 1000 ∧
  (allNames (ps.map (·.2) ++ [(a, D)])).length + 1 < 4096 ∧ (24 ≤ ps.length → ∀ H' x, Ex H H' → H' x = some (.xd [("limit", .int 24)]) → E (.ref CT) (some x) H') ∧
  (ps.length < 24 → 12 < (putL (allNames (ps.map (·.2) ++ [(a, D)]))).length → ∀ H' x, Ex H H' → H' x = some (.xd [("limit", .int 12)]) → E (.ref CT) (some x) H') ∧
  (ps.length < 24 → (putL (allNames (ps.map (·.2) ++ [(a, D)]))).length ≤ 12 → ∀ H', Ex H H' → Q .non H')
theorem okG_check_room (T : Txt P K mg) : FnOk P w K mg base (L2N.CX P w) 9 T.f__check_room T.d__check_room ["placed", "clause"] (spRoomG T.C_Clause T.C_TooMany) := by
  refine T.F__check_room.okN sc__check_room (fun vs H Q E h => ?_) (fun cdv A outer s H vs Q E hr h => ?_)
  · obtain ⟨d, a, D, ps, rfl, _⟩ := h
    rfl
  · obtain ⟨d, a, D, ps, rfl, hd, hc, lps, names, full, many, q⟩ := h
    obtain ⟨u0, V0⟩ := T.V_Book_LIMIT
    refine ⟨_, (pss_cons (ps_if (pt_cmpR op_ge (pe_callB call_lenD (by rfl) T.n_len PySem.boot_len (pa_cons (pv 0) pa_nil)) (ClX.pe_cval (pe_glob (v := .ref T.C_Book) rfl T.g_Book rfl)) (nomark _)) (pss_one (L2N.ps_raise rfl (L2N.takes_of rfl rfl rfl rfl) (pmk1 T.E_TooMany rfl fld_limit T.o_TooMany hr (pa_cons (ClX.pe_cval (pe_glob (v := .ref T.C_Book) rfl T.g_Book rfl)) pa_nil) rfl (by decide)))) pss_nil)
      (pss_one (ps_expr (pe_call (ok_check_names T) (hr.mono (by decide)) rfl T.g__check_names T.F__check_names.kp T.b__check_names .nil (L2N.passes_call (L2N.takes_of rfl rfl rfl rfl) (fun _ _ _ _ h => h)) (pa_cons (pe_op op_cat (pe_callTy (call_listVals rfl) (by rfl) T.n_list (by decide +kernel) (pa_cons (pe_bm0 PySem.F.plainAttrs_dict PySem.F.slot_dict_values PySem.F.type_dict_values mt_valsK (pv 0)) pa_nil)) (pe_lst (pa_cons (pv 1) pa_nil))) pa_nil))))), ?_⟩
    refine ⟨_, rfl, d, _, rfl, hd, T.C_Book, .type "type", .int 24, u0, rfl, T.R_Book, V0, _, _, rfl, rfl, _, rfl, ite2 (fun big => ?_) (fun big => ?_)⟩
    · have z := of_decide_eq_true big
      rw [List.length_map] at z
      refine ⟨T.C_Book, .type "type", .int 24, u0, rfl, T.R_Book, V0, _, rfl, fun u hu => ?_, fun x nx => full (by omega) _ x (Ex.new nx) upd_same⟩
      obtain ⟨tk, rfl⟩ := hu
      exact msg_ci fld_limit (by decide) (by decide) (by decide)
    · have few : ps.length < 24 := Nat.lt_of_not_le fun h => big (decide_eq_true (by rw [List.length_map]; omega))
      refine ⟨_, rfl, ?TY, d, _, rfl, rfl, .inl hd, fun v nv => ?_⟩
      case TY => exact .inr (.inr (.inl ⟨rfl, .inl ⟨_, hd⟩⟩))
      have e1 : Ex H (upd H v (valsO v d)) := Ex.new nv
      refine ⟨v, d, _, rfl, upd_same, .inl (e1 _ _ hd), fun l nl => ?_⟩
      have e2 := e1.trans (Ex.new (o := .lst ((ps.map fun p => (p.1, V.ref p.2.1)).map (·.2))) nl)
      refine ⟨_, rfl, (by show 1 ≤ sizeLine; rw [sizeLine_eq]; decide), fun l1 nl1 => ?_⟩
      have e3 := e2.trans (Ex.new (o := .lst [V.ref a]) nl1)
      have ne1 : l ≠ l1 := fun e => by rw [← e, upd_same] at nl1; cases nl1
      refine ⟨l, l1, _, _, rfl, rfl, (by rw [upd_ne ne1, upd_same]), upd_same, (by rw [List.length_map, List.length_map, sizeLine_eq]; show ps.length + 1 ≤ _; omega), fun l2 nl2 => ?_⟩
      have e4 := e3.trans (Ex.new (o := .lst ((ps.map fun p => (p.1, V.ref p.2.1)).map (·.2) ++ [V.ref a])) nl2)
      refine ⟨l2, ps.map (·.2) ++ [(a, D)], rfl, ?_, hc.mono e4, names, fun ok H5 e5 => q few ok _ (e4.trans e5), fun bad H5 x e5 => many few bad _ x (e4.trans e5)⟩
      rw [upd_same, List.map_append, List.map_map, List.map_map]
      rfl
end
section
open Evl
def spRoom (C CT : Addr) : Sp := fun vs H Q E => ∃ (d a : Addr) (D : List Str) (ps : List (Key × Addr × List Str)), vs = [.ref d, .ref a] ∧ H d = some (.dK (ps.map fun p => (p.1, V.ref p.2.1))) ∧ ClsAt C H (ps.map (·.2) ++ [(a, D)]) ∧ ps.length < 24 ∧
  (allNames (ps.map (·.2) ++ [(a, D)])).length + 1 < 4096 ∧ (putL (allNames (ps.map (·.2) ++ [(a, D)]))).length ≤ 12 ∧ ∀ H', Ex H H' → Q .non H'
theorem ok_check_room (T : Txt P K mg) : FnOk P w K mg base (L2N.CX P w) 9 T.f__check_room T.d__check_room ["placed", "clause"] (spRoom T.C_Clause T.C_TooMany) := by
  refine T.F__check_room.okN sc__check_room (fun vs H Q E h => ?_) (fun cdv A outer s H vs Q E hr h => ?_)
  · obtain ⟨d, a, D, ps, rfl, _⟩ := h
    rfl
  · obtain ⟨d, a, D, ps, rfl, hd, hc, few, names, room, q⟩ := h
    obtain ⟨u0, V0⟩ := T.V_Book_LIMIT
    refine ⟨_, (pss_cons (ps_if (pt_cmpR op_ge (pe_callB call_lenD (by rfl) T.n_len PySem.boot_len (pa_cons (pv 0) pa_nil)) (ClX.pe_cval (pe_glob (v := .ref T.C_Book) rfl T.g_Book rfl)) (nomark _)) (pss_one (L2N.ps_raise rfl (L2N.takes_of rfl rfl rfl rfl) (pmk1 T.E_TooMany rfl fld_limit T.o_TooMany hr (pa_cons (ClX.pe_cval (pe_glob (v := .ref T.C_Book) rfl T.g_Book rfl)) pa_nil) rfl (by decide)))) pss_nil)
      (pss_one (ps_expr (pe_call (ok_check_names T) (hr.mono (by decide)) rfl T.g__check_names T.F__check_names.kp T.b__check_names .nil (L2N.passes_call (L2N.takes_of rfl rfl rfl rfl) (fun _ _ _ _ h => h)) (pa_cons (pe_op op_cat (pe_callTy (call_listVals rfl) (by rfl) T.n_list (by decide +kernel) (pa_cons (pe_bm0 PySem.F.plainAttrs_dict PySem.F.slot_dict_values PySem.F.type_dict_values mt_valsK (pv 0)) pa_nil)) (pe_lst (pa_cons (pv 1) pa_nil))) pa_nil))))), ?_⟩
    refine ⟨_, rfl, d, _, rfl, hd, T.C_Book, .type "type", .int 24, u0, rfl, T.R_Book, V0, _, _, rfl, rfl, _, rfl, ite2 (fun big => ?_) (fun big => ?_)⟩
    · exfalso
      have z := of_decide_eq_true big
      rw [List.length_map] at z
      omega
    · refine ⟨_, rfl, ?TY, d, _, rfl, rfl, .inl hd, fun v nv => ?_⟩
      case TY => exact .inr (.inr (.inl ⟨rfl, .inl ⟨_, hd⟩⟩))
      have e1 : Ex H (upd H v (valsO v d)) := Ex.new nv
      refine ⟨v, d, _, rfl, upd_same, .inl (e1 _ _ hd), fun l nl => ?_⟩
      have e2 := e1.trans (Ex.new (o := .lst ((ps.map fun p => (p.1, V.ref p.2.1)).map (·.2))) nl)
      refine ⟨_, rfl, (by show 1 ≤ sizeLine; rw [sizeLine_eq]; decide), fun l1 nl1 => ?_⟩
      have e3 := e2.trans (Ex.new (o := .lst [V.ref a]) nl1)
      have ne1 : l ≠ l1 := fun e => by rw [← e, upd_same] at nl1; cases nl1
      refine ⟨l, l1, _, _, rfl, rfl, (by rw [upd_ne ne1, upd_same]), upd_same, (by rw [List.length_map, List.length_map, sizeLine_eq]; show ps.length + 1 ≤ _; omega), fun l2 nl2 => ?_⟩
      have e4 := e3.trans (Ex.new (o := .lst ((ps.map fun p => (p.1, V.ref p.2.1)).map (·.2) ++ [V.ref a])) nl2)
      refine ⟨l2, ps.map (·.2) ++ [(a, D)], rfl, ?_, hc.mono e4, names, fun _ H5 e5 => q _ (e4.trans e5), fun big => absurd room (by omega)⟩
      rw [upd_same, List.map_append, List.map_map, List.map_map]
      rfl
end
section
open Evl
/-! ### a book -/
abbrev Ent := Key × Addr × List Str
def dkv (ps : List Ent) : List (Key × V) := ps.map fun p => (p.1, V.ref p.2.1)
/-- a book at b: its dict d, the last number given -/
structure BkAt (C CB : Addr) (H : Hp) (b dx d : Addr) (ps : List Ent) (last : Int) : Prop where
  at_ : H b = some (.ins CB dx [("_placed", .ref d), ("_last", .int last)])
  di : H d = some (.dK (dkv ps))
  cls : ClsAt C H (ps.map (·.2))
theorem BkAt.mono {C CB : Addr} {H H' : Hp} {b dx d : Addr} {ps : List Ent} {last : Int} (h : BkAt C CB H b dx d ps last) (e : Ex H H') : BkAt C CB H' b dx d ps last := ⟨e _ _ h.at_, e _ _ h.di, h.cls.mono e⟩
theorem lt_u1 {n k : Nat} (h : n + 16 * k + 200 < cLine) : n + 1 < cLine := by omega
theorem rd_ex {H H' : Hp} {a : Addr} {u : HO} (e : Ex H H') (r : Rd H a u) : Rd H' a u := by
  rcases r with r | ⟨o, r⟩
  · exact .inl (e _ _ r)
  · exact .inr ⟨o, e _ _ r⟩
/-- n in book -/
def spBIn (CB : Addr) : Sp := fun vs H Q _ => ∃ (b dx d : Addr) (last n : Int) (kvs : List (Key × V)), vs = [.ref b, .int n] ∧ H b = some (.ins CB dx [("_placed", .ref d), ("_last", .int last)]) ∧ Rd H d (.dK kvs) ∧ ∀ H', Ex H H' → Q (.bl (valV kvs (.inl n)).isSome) H'
theorem ok_Book_contains (T : Txt P K mg) : FnOk P w K mg base CX0 1 T.f_Book_contains T.d_Book_contains ["self", "x"] (spBIn T.C_Book) := by
  refine T.F_Book_contains.ok sc_Book_contains (fun vs H Q E h => ?_) (fun cdv A outer s H vs Q E hr h => ?_)
  · obtain ⟨b, dx, d, last, n, kvs, rfl, _⟩ := h
    rfl
  · obtain ⟨b, dx, d, last, n, kvs, rfl, hb, hd, q⟩ := h
    have hu := hr.un
    refine ⟨_, (pss_one (ps_ret (pe_and (pe_callB call_isi (by rfl) T.n_isinstance (by decide +kernel) (pa_cons (pv 1) (pa_cons (pe_bltn (v := .ty "int") (u := .type "int") (by rfl) T.n_int (by decide +kernel) rfl) pa_nil)))
      (pe_and (pe_not (pe_callB call_isi (by rfl) T.n_isinstance (by decide +kernel) (pa_cons (pv 1) (pa_cons (pe_bltn (v := .ty "bool") (u := .type "bool") (by rfl) T.n_bool (by decide +kernel) rfl) pa_nil)))) (pe_one (pe_cmp (pc_din (by exact lt_u1 (k := 0) hu) (pv 1) (pe_fld (pv 0) rfl)))))))), ?_⟩
    have k1 : kitB "int" "int" = some true := by decide +kernel
    have k2 : kitB "int" "bool" = some false := by decide +kernel
    refine s_ret (v := .bl (valV kvs (.inl n)).isSome) (ev_is (ev_andV (a := true) (b := (valV kvs (.inl n)).isSome) (ev_isi (ev_var rfl) (fun _ => .base (.int n)) k1) (fun _ => ev_is (ev_andV (a := true) (b := (valV kvs (.inl n)).isSome) (ev_is (ev_notV (a := false) (ev_isi (ev_var rfl) (fun _ => .base (.int n)) k2)) rfl) (fun _ H1 e1 Q' q' => ?_)) (by simp))) (by simp)) fun H1 e1 => q H1 e1
    refine ⟨_, rfl, _, rfl, b, T.C_Book, dx, _, .ref d, rfl, e1 _ _ hb, T.cl_Book, T.na_Book__placed, rfl, d, _, rfl, ?_, q' H1 (Ex.refl H1)⟩
    exact .inl ⟨kvs, .inl n, rd_ex e1 hd, rfl, rfl⟩
/-- the number can be written -/
structure ITxt (n : Int) : Prop where
  lg : n.natAbs.log2 < 1920
  ln : (toString n : Str).length ≤ 1000
/-- book[n] -/
def spBGet (CB CN : Addr) : Sp := fun vs H Q E => ∃ (b dx d : Addr) (last n : Int) (kvs : List (Key × V)), vs = [.ref b, .int n] ∧ ITxt n ∧ H b = some (.ins CB dx [("_placed", .ref d), ("_last", .int last)]) ∧ Rd H d (.dK kvs) ∧
  (∀ v, valV kvs (.inl n) = some v → ∀ H', Ex H H' → Q v H') ∧ (valV kvs (.inl n) = none → ∀ H' x, Ex H H' → H' x = some (.xd [("number", .int n)]) → E (.ref CN) (some x) H')
theorem ok_Book_getitem (T : Txt P K mg) : FnOk P w K mg base (L2N.CX P w) 3 T.f_Book_getitem T.d_Book_getitem ["self", "at"] (spBGet T.C_Book T.C_NoClause) := by
  refine T.F_Book_getitem.okN sc_Book_getitem (fun vs H Q E h => ?_) (fun cdv A outer s H vs Q E hr h => ?_)
  · obtain ⟨b, dx, d, last, n, kvs, rfl, _⟩ := h
    rfl
  · obtain ⟨b, dx, d, last, n, kvs, rfl, tx, hb, hd, good, bad⟩ := h
    have hu := hr.un
    refine ⟨_, (pss_cons (ps_if (pt_cmpR (op_niO T.m_Book_contains T.i_Book_contains (ok_Book_contains T) (hr.mono (by decide)) T.b_Book_contains pass0) (pv 1) (pv 0) (by rfl)) (pss_one (L2N.ps_raise rfl (L2N.takes_of rfl rfl rfl rfl) (pmk1 T.E_NoClause rfl fld_number T.o_NoClause hr (pa_cons (pv 1) pa_nil) rfl (by decide)))) pss_nil)
      (pss_one (ps_ret (pe_dget (by exact lt_u1 (k := 2) hu) (pe_fld (pv 0) rfl) (pv 1) (fun _ _ => rfl))))), ?_⟩
    refine ⟨_, rfl, _, rfl, b, dx, _, rfl, hb, b, dx, d, last, n, kvs, rfl, hb, hd, fun H1 e1 => ⟨_, rfl, _, rfl, ?_⟩⟩
    cases hv : valV kvs (.inl n) with
    | none =>
      refine iteT ?_
      refine ⟨_, rfl, _, rfl, fun u hu => ?_, fun x nx => bad hv _ x (e1.trans (Ex.new nx)) upd_same⟩
      obtain ⟨tk, rfl⟩ := hu
      exact msg_ci fld_number (by decide) tx.lg tx.ln
    | some v =>
      refine iteF ?_
      exact ⟨_, rfl, b, T.C_Book, dx, _, .ref d, rfl, e1 _ _ hb, T.cl_Book, T.na_Book__placed, rfl, _, rfl, d, v, rfl, .inl ⟨kvs, .inl n, rd_ex e1 hd, rfl, hv.symm⟩, good v hv H1 e1⟩
/-- book.names -/
def spBNames (C CB : Addr) : Sp := fun vs H Q _ => ∃ (b dx d : Addr) (ps : List Ent) (last : Int), vs = [.ref b] ∧ BkAt C CB H b dx d ps last ∧ (allNames (ps.map (·.2))).length + 1 < 4096 ∧
  ∀ H' p ss, Ex H H' → H p = none → ss.Perm (putL (allNames (ps.map (·.2)))) → sortedS ss = true → H' p = some (.tup (ss.map V.str)) → Q (.ref p) H'
theorem ok_Book_names (T : Txt P K mg) : FnOk P w K mg base CX0 8 T.f_Book_names T.d_Book_names ["self"] (spBNames T.C_Clause T.C_Book) := by
  refine T.F_Book_names.ok sc_Book_names (fun vs H Q E h => ?_) (fun cdv A outer s H vs Q E hr h => ?_)
  · obtain ⟨b, dx, d, ps, last, rfl, _⟩ := h
    rfl
  · obtain ⟨b, dx, d, ps, last, rfl, ⟨hb, hd, hc⟩, few, q⟩ := h
    refine ⟨_, (pss_one (ps_ret (pe_callTy call_tuple_of (by rfl) T.n_tuple (by decide +kernel) (pa_cons (pe_call (ok_names_in T) (hr.mono (by decide)) rfl T.g__names_in T.F__names_in.kp T.b__names_in .nil pass0 (pa_cons (pe_callTy (call_listVals rfl) (by rfl) T.n_list (by decide +kernel) (pa_cons (pe_bm0 PySem.F.plainAttrs_dict PySem.F.slot_dict_values PySem.F.type_dict_values mt_valsK (pe_fld (pv 0) rfl)) pa_nil)) pa_nil)) pa_nil)))), ?_⟩
    refine ⟨_, rfl, b, T.C_Book, dx, _, .ref d, rfl, hb, T.cl_Book, T.na_Book__placed, rfl, ?TY, d, _, rfl, rfl, .inl hd, fun v nv => ?_⟩
    case TY => exact .inr (.inr (.inl ⟨rfl, .inl ⟨_, hd⟩⟩))
    have e1 : Ex H (upd H v (valsO v d)) := Ex.new nv
    refine ⟨v, d, _, rfl, upd_same, .inl (e1 _ _ hd), fun l nl => ?_⟩
    have e2 := e1.trans (Ex.new (o := .lst ((dkv ps).map (·.2))) nl)
    refine ⟨l, ps.map (·.2), rfl, ?_, hc.mono e2, few, fun H3 p ss e3 np pm srt hp => ?_⟩
    · rw [upd_same]
      unfold dkv
      rw [List.map_map, List.map_map]
      rfl
    · refine ⟨p, _, rfl, .inl ⟨SqL.of hp, fun t nt => ?_⟩⟩
      have e4 := (e2.trans e3).trans (Ex.new (o := .tup (ss.map V.str)) nt)
      exact q _ t ss e4 (fresh_back (e2.trans e3) nt) pm srt upd_same
end
section
open Evl
/-- _placed_from_one(()) -/
def spP1 : Sp := fun vs H Q _ => ∃ t : Addr, vs = [.ref t] ∧ H t = some (.tup []) ∧ ∀ H' p, Ex H H' → H p = none → H' p = some (.dK []) → Q (.ref p) H'
theorem ok_placed_from_one (T : Txt P K mg) : FnOk P w K mg base (L2N.CX P w) 10 T.f__placed_from_one T.d__placed_from_one ["clauses"] spP1 := by
  refine T.F__placed_from_one.okN sc__placed_from_one (fun vs H Q E h => ?_) (fun cdv A outer s H vs Q E hr h => ?_)
  · obtain ⟨t, rfl, _⟩ := h
    rfl
  · obtain ⟨t, rfl, ht, q⟩ := h
    have hu := hr.un
    refine ⟨_, (pss_cons (ps_set (i := 1) sc__placed_from_one.nd rfl (.inl rfl) pe_dnewK)
      (pss_cons (ps_for PassesOwn.leaving rfl (pi_enumS (by rfl) T.n_enumerate (pa_cons (pv 0) pa_nil) (pk_cons pe_int pk_nil)) (pg_tup rfl (pgs_cons (pg_name (i := 2) sc__placed_from_one.nd rfl (.inl rfl)) (pgs_cons (pg_name (i := 3) sc__placed_from_one.nd rfl (.inl rfl)) pgs_nil)))
        (pss_cons (ps_expr (pe_call (ok_check_room T) (hr.mono (by decide)) rfl T.g__check_room T.F__check_room.kp T.b__check_room .nil (L2N.passes_call (L2N.takes_of rfl rfl rfl rfl) (fun _ _ _ _ h => h)) (pa_cons (pv 1) (pa_cons (pv 3) pa_nil))))
        (pss_one (ps_dput (by exact lt_u1 (k := 9) hu) (pv 1) (pv 2) (pv 3) rfl))))
      (pss_one (ps_ret (pv 1))))), ?_⟩
    intro p np
    have e1 : Ex H (upd H p (.dK [])) := Ex.new np
    refine ⟨_, rfl, t, [], 1, rfl, rfl, by decide, by decide, st_of (e1 _ _ ht), ?_⟩
    refine for_it (walk_enumS (K := K) (xs := [])) (fun i σ H' => σ = [some (V.ref t), some (.ref p), none, none] ∧ H' = upd H p (.dK [])) ⟨rfl, rfl⟩ (fun i σ H' _ h => by rw [h.2]; exact st_of (e1 _ _ ht)) (fun i x σ H1 H2 hi => absurd hi (by show ¬ i < 0; omega)) ?_
    rintro σ H' ⟨rfl, rfl⟩
    exact ⟨_, rfl, q _ p e1 np upd_same⟩
/-- Book.__init__(self) -/
def spBk0 (CB : Addr) : Sp := fun vs H Q E => ∃ (x dx t : Addr), vs = [.ref x, .ref t] ∧ H x = some (.ins CB dx []) ∧ H t = some (.tup []) ∧
  ∀ H' d, (∀ c o, c ≠ x → H c = some o → H' c = some o) → H d = none → H' x = some (.ins CB dx [("_placed", .ref d), ("_last", .int 0)]) → H' d = some (.dK []) → Q .non H'
theorem okR_Book_init (T : Txt P K mg) : FnR P w K mg base (L2N.CX P w) 11 T.f_Book_init (fun vs H Q E => ∃ ws rest, vs = ws ++ rest ∧ ws.length = ["self"].length ∧ rest.length ≤ sizeLine ∧ ∀ p, H p = none → spBk0 T.C_Book (ws ++ [V.ref p]) (upd H p (.tup rest)) Q E) := by
  refine T.F_Book_init.okStar (ps := ["self"]) sc_Book_init (fun kV doc pm an cdv ct => StX.bind_star1 (B := fun us => bindArgs (PySem.W.fnOf "__init__" "Book.__init__" (defArgs s_Book_init) (defBody s_Book_init) (defScope s_Book_init) .none kV doc pm an cdv ct) ⟨us, []⟩) (p1 := "self") (pv := "clauses") (fun a => rfl) (fun a r rs => rfl)) (fun cdv A outer s H vs Q E hr h => ?_)
  obtain ⟨x, dx, t, rfl, hx, ht, q⟩ := h
  refine ⟨_, (pss_cons (ps_fld (pv 0) (pe_call (ok_placed_from_one T) (hr.mono (by decide)) rfl T.g__placed_from_one T.F__placed_from_one.kp T.b__placed_from_one .nil (L2N.passes_call (L2N.takes_of rfl rfl rfl rfl) (fun _ _ _ _ h => h)) (pa_cons (pv 1) pa_nil)) rfl)
    (pss_one (ps_fld (pv 0) (pe_callB call_len_seq (by rfl) T.n_len PySem.boot_len (pa_cons (pv 1) pa_nil)) rfl))), ?_⟩
  refine ⟨_, rfl, t, rfl, ht, fun H1 d e1 nd hd => ?_⟩
  have hx1 := e1 _ _ hx
  have xd : d ≠ x := fun e => by rw [e, hx] at nd; cases nd
  have xt : t ≠ x := fun e => by rw [e, hx] at ht; cases ht
  refine ⟨.ref x, rfl, x, T.C_Book, dx, _, rfl, hx1, T.cl_Book, T.na_Book__placed, (by show 0 < 1000; decide), ?_⟩
  have ht2 : (upd H1 x (.ins T.C_Book dx (putF "_placed" (.ref d) []))) t = some (.tup []) := by rw [upd_ne xt]; exact e1 _ _ ht
  refine ⟨_, rfl, t, _, rfl, .inr (st_of ht2), .ref x, rfl, x, T.C_Book, dx, _, rfl, upd_same, T.cl_Book, T.na_Book__last, (by show 1 < 1000; decide), ?_⟩
  rw [upd_upd]
  refine q _ d (fun c o nc hc => ?_) nd upd_same (by rw [upd_ne xd]; exact hd)
  rw [upd_ne nc]
  exact e1 _ _ hc
end
section
open Evl
theorem valV_none {k : Key} : ∀ {kvs : List (Key × V)}, k ∉ kvs.map (·.1) → valV kvs k = none
  | [], _ => rfl
  | p :: r, h => by
    rw [List.map_cons, List.mem_cons, not_or] at h
    rw [valV_neg (fun e => h.1 e.symm)]
    exact valV_none h.2
theorem dkv_keys (ps : List Ent) : (dkv ps).map (·.1) = ps.map (·.1) := by unfold dkv; rw [List.map_map]; rfl
theorem dkv_app (ps qs : List Ent) : dkv (ps ++ qs) = dkv ps ++ dkv qs := by unfold dkv; rw [List.map_append]
abbrev bkF (d : Addr) (n : Int) : List (Str × V) := [("_placed", .ref d), ("_last", .int n)]
end
section
open Evl
theorem getB (T : Txt P K mg) : GetO K T.C_Book T.f_Book_getitem := ⟨T.m_Book_getitem, by
  obtain ⟨⟨_, _, _, _, _, _, _, _, _, _, lk, _⟩, _⟩ := T.F_Book_getitem
  unfold PySem.W.fnIn
  rw [lk], T.i_Book_getitem⟩
/-- what is kept without the number n -/
def without1 (ps : List Ent) (k : Key) : List Ent := ps.filter fun q => decide (q.1 ≠ k)
theorem valV_at : ∀ {ps : List Ent} {p : Ent}, (ps.map (·.1)).Nodup → p ∈ ps → valV (dkv ps) p.1 = some (.ref p.2.1)
  | q :: r, p, nd, h => by
    rw [List.map_cons, List.nodup_cons] at nd
    rcases List.mem_cons.mp h with e | e
    · rw [e]; exact valV_pos rfl
    · have ne : ¬ q.1 = p.1 := fun z => nd.1 (List.mem_map.mpr ⟨p, e, z.symm⟩)
      have z := valV_at nd.2 e
      show valV ((q.1, V.ref q.2.1) :: dkv r) p.1 = _
      rw [valV_neg ne]; exact z
/-- what is locked is read, and opened again -/
theorem ex_unlock {H H' : Hp} {d : Addr} {u f : HO} (hd : H d = some u) (e : Ex (upd H d f) H') : Ex H (upd H' d u) := fun c o h => by
  by_cases hc : c = d
  · rw [hc, hd] at h
    rw [hc, upd_same]
    exact h
  · rw [upd_ne hc]
    exact e c o (by rw [upd_ne hc]; exact h)
/-- drop(number) -/
def spBDrop (C CB CN : Addr) : Sp := fun vs H Q E => ∃ (b dx d : Addr) (n : Int) (ps : List Ent) (last : Int), vs = [.ref b, .int n] ∧ ITxt n ∧ BkAt C CB H b dx d ps last ∧ (ps.map (·.1)).Nodup ∧ (∀ p ∈ ps, ∃ i : Int, p.1 = .inl i) ∧ ps.length < 1000 ∧
  (∀ p ∈ ps, p.1 = .inl n → ∀ H' d', (∀ c o, c ≠ b → H c = some o → H' c = some o) → H d' = none → H' b = some (.ins CB dx (bkF d' last)) → H' d' = some (.dK (dkv (without1 ps (.inl n)))) → Q (.ref p.2.1) H') ∧
  ((.inl n : Key) ∉ ps.map (·.1) → ∀ H' x, Ex H H' → H' x = some (.xd [("number", .int n)]) → E (.ref CN) (some x) H')
theorem ok_Book_drop (T : Txt P K mg) : FnOk P w K mg base (L2N.CX P w) 5 T.f_Book_drop T.d_Book_drop ["self", "number"] (spBDrop T.C_Clause T.C_Book T.C_NoClause) := by
  refine T.F_Book_drop.okN sc_Book_drop (fun vs H Q E h => ?_) (fun cdv A outer s H vs Q E hr h => ?_)
  · obtain ⟨b, dx, d, n, ps, last, rfl, _⟩ := h
    rfl
  · obtain ⟨b, dx, d, n, ps, last, rfl, tx, B, nd, kint, few, good, bad⟩ := h
    obtain ⟨hb, hd, hc⟩ := id B
    refine ⟨_, (pss_cons (ps_set (i := 2) sc_Book_drop.nd rfl (.inl rfl) (pe_subO (getB T) (ok_Book_getitem T) (hr.mono (by decide)) T.b_Book_getitem (L2N.passes_call (L2N.takes_of rfl rfl rfl rfl) (fun _ _ _ _ h => h)) (pv 0) (pv 1)))
      (pss_cons (ps_fld (pv 0) (pe_lock (pe_dc (own := [("other", 3), ("kept", 4)]) (g := gTup K 2 (gCons (gName 3) (gCons (gName 4) gNil))) (by rfl) sc_Book_drop.nd (pi_items (pe_fld (pv 0) rfl)) (blkOk_by (own := [("other", 3), ("kept", 4)]) (N := N_Book_drop) (sc := defScope s_Book_drop) (by decide +kernel))
        (fun _ _ _ _ _ => pg_tup rfl (pgs_cons (pg_name (i := 3) sc_Book_drop.nd rfl (Or.inl rfl)) (pgs_cons (pg_name (i := 4) sc_Book_drop.nd rfl (Or.inl rfl)) pgs_nil))) (fun _ _ _ _ _ => pts_one (pt_cmpR op_ne (pv 3) (pv 1) (nomark _))) (fun _ _ _ _ _ => pv 3) (fun _ _ _ _ _ => pv 4))) rfl)
      (pss_one (ps_ret (pv 2))))), ?_⟩
    refine ⟨_, rfl, _, rfl, b, dx, _, rfl, hb, b, dx, d, last, n, dkv ps, rfl, tx, hb, .inl hd, fun v hv H1 e1 => ?_, fun no => bad fun m => ?_⟩
    rotate_left
    · obtain ⟨p, mp, ep⟩ := List.mem_map.mp m
      have z := valV_at nd mp
      rw [ep, no] at z
      cases z
    obtain ⟨p, mp, ep⟩ : ∃ p ∈ ps, p.1 = .inl n := by
      have z := valV_in hv
      rw [dkv_keys] at z
      exact List.mem_map.mp z
    have vp : v = .ref p.2.1 := by
      have z := valV_at nd mp
      rw [ep, hv] at z
      exact Option.some.inj z
    subst vp
    have hb1 := e1 _ _ hb
    have hd1 := e1 _ _ hd
    have db : d ≠ b := fun e => by rw [e, hb1] at hd1; cases hd1
    refine ⟨d, _, hd1, True.intro, fun od => ?_⟩
    have hb2 : (upd H1 d (.frz od (.dK (dkv ps)))) b = some (.ins T.C_Book dx (bkF d last)) := by rw [upd_ne (Ne.symm db)]; exact hb1
    have hd2 : (upd H1 d (.frz od (.dK (dkv ps)))) d = some (.frz od (.dK (dkv ps))) := upd_same
    refine ⟨_, rfl, b, T.C_Book, dx, _, .ref d, rfl, hb2, T.cl_Book, T.na_Book__placed, rfl, d, od, dkv ps, rfl, hd2, fun D nD => ?_⟩
    refine dc_it (walk_items (d := d) (o := od) (kvs := dkv ps)) (fun i H' => Ex (upd H1 d (.frz od (.dK (dkv ps)))) H' ∧ H' D = some (.dK (dkv (without1 (ps.take i) (.inl n))))) ⟨Ex.new nD, upd_same⟩ (fun i H' _ h => h.1 _ _ hd2) ?_ ?_
    · rintro i x H2 H3 hi ⟨q1, q2⟩ ⟨T1, y1, y2, rfl, nT, rfl, hy1, hy2⟩
      have hi2 : i < ps.length := by
        have z : (dkv ps).length = ps.length := by unfold dkv; rw [List.length_map]
        omega
      have gi : (dkv ps)[i]? = some ((ps[i]).1, V.ref (ps[i]).2.1) := by
        unfold dkv
        rw [List.getElem?_map, List.getElem?_eq_getElem hi2]
        rfl
      dsimp only at hy1 hy2
      rw [gi] at hy1 hy2
      obtain rfl : kV (ps[i]).1 = y1 := Option.some.inj hy1
      obtain rfl : V.ref (ps[i]).2.1 = y2 := Option.some.inj hy2
      obtain ⟨m, em⟩ := kint ps[i] (List.getElem_mem hi2)
      have ek : kV (ps[i]).1 = .int m := by rw [em]; rfl
      have nT2 : T1 ≠ D := fun e => by rw [e, q2] at nT; cases nT
      have q3 : (upd H2 T1 (.tup [kV (ps[i]).1, .ref (ps[i]).2.1])) D = some (.dK (dkv (without1 (ps.take i) (.inl n)))) := by rw [upd_ne (Ne.symm nT2)]; exact q2
      have e3 := q1.trans (Ex.new (o := .tup [kV (ps[i]).1, .ref (ps[i]).2.1]) nT)
      have tk : ps.take (i + 1) = ps.take i ++ [ps[i]] := by rw [List.take_add_one, List.getElem?_eq_getElem hi2]; rfl
      refine ⟨T1, _, rfl, st_of upd_same, rfl, _, _, rfl, _, _, rfl, rfl, rfl, ?_⟩
      rw [ek] at q3 e3 ⊢
      refine ⟨_, rfl, _, rfl, rfl, _, rfl, ?_⟩
      by_cases hn : m = n
      · subst hn
        rw [show decide (V.int m = V.int m) = true from decide_eq_true rfl]
        refine iteF ⟨e3, ?_⟩
        rw [q3, tk]
        unfold without1
        rw [List.filter_append, List.filter_cons_of_neg (by rw [em]; simp), List.filter_nil, List.append_nil]
      · have ne : ¬ V.int m = V.int n := fun e => hn (V.int.inj e)
        rw [show decide (V.int m = V.int n) = false from decide_eq_false ne]
        have nk : ¬ (ps[i]).1 = .inl n := fun e => hn (by rw [em] at e; exact Sum.inl.inj e)
        have wd : without1 (ps.take (i + 1)) (.inl n) = without1 (ps.take i) (.inl n) ++ [ps[i]] := by
          rw [tk]
          unfold without1
          rw [List.filter_append, List.filter_cons_of_pos (by exact decide_eq_true nk), List.filter_nil]
        refine iteT ⟨_, rfl, _, rfl, _, .inl m, rfl, q3, ?_, e3.mut nD, ?_⟩
        · have l1 : (without1 (ps.take i) (.inl n)).length ≤ i := by
            unfold without1
            exact Nat.le_trans (List.length_filter_le _ _) (List.length_take_le _ _)
          unfold dkv
          rw [List.length_map, sizeLine_eq]
          omega
        · rw [upd_same, wd, dkv_app, putK_new _ (valV_none (by
            rw [dkv_keys]
            intro h
            obtain ⟨q, mq, eq⟩ := List.mem_map.mp h
            have mq2 := (List.mem_filter.mp mq).1
            have ndt : ((ps.take (i + 1)).map (·.1)).Nodup := nd.sublist ((List.take_sublist _ _).map _)
            rw [tk, List.map_append, List.nodup_append] at ndt
            exact ndt.2.2 _ (List.mem_map.mpr ⟨q, mq2, rfl⟩) (ps[i]).1 (List.mem_map.mpr ⟨ps[i], List.mem_singleton.mpr rfl, rfl⟩) (by rw [eq, em])))]
          show _ = some (HO.dK (_ ++ [((ps[i]).1, V.ref (ps[i]).2.1)]))
          rw [em]
    · rintro H2 ⟨q1, q2⟩
      rw [show (dkv ps).length = ps.length by unfold dkv; rw [List.length_map], List.take_length] at q2
      have hd3 := q1 _ _ hd2
      refine ⟨hd3, ?_⟩
      have e2 : Ex H1 (upd H2 d (.dK (dkv ps))) := ex_unlock hd1 q1
      have hb3 := e2 _ _ hb1
      have nD1 : H1 D = none := by
        have z := nD
        by_cases hc : D = d
        · rw [hc, hd2] at z; cases z
        · rw [upd_ne hc] at z; exact z
      have Dd : D ≠ d := fun e => by rw [e, hd1] at nD1; cases nD1
      have Db : D ≠ b := fun e => by rw [e, hb1] at nD1; cases nD1
      refine ⟨_, rfl, b, T.C_Book, dx, _, rfl, hb3, T.cl_Book, T.na_Book__placed, (by show 2 < 1000; decide), ?_⟩
      refine ⟨_, rfl, good p mp ep _ D (fun c o nc h => ?_) (fresh_back e1 nD1) upd_same ?_⟩
      · rw [upd_ne nc]
        exact e2 _ _ (e1 _ _ h)
      · rw [upd_ne Db, upd_ne Dd]
        exact q2
end
section
open Evl
theorem mkBk (T : Txt P K mg) : Mk K T.C_Book T.f_Book_init := ⟨T.mi_Book, T.m_Book_init, T.i_Book_init, T.kc_Book⟩
/-- book_of(placed, last) -/
def spBookOf (CB : Addr) : Sp := fun vs H Q _ => ∃ (d : Addr) (last : Int), vs = [.ref d, .int last] ∧ ∀ H' b dx, Ex H H' → H b = none → H' b = some (.ins CB dx (bkF d last)) → Q (.ref b) H'
theorem ok_book_of (T : Txt P K mg) : FnOk P w K mg base CX0 13 T.f_book_of T.d_book_of ["placed", "last"] (spBookOf T.C_Book) := by
  refine T.F_book_of.ok sc_book_of (fun vs H Q E h => ?_) (fun cdv A outer s H vs Q E hr h => ?_)
  · obtain ⟨d, last, rfl, _⟩ := h
    rfl
  · obtain ⟨d, last, rfl, q⟩ := h
    refine ⟨_, (pss_cons (ps_set (i := 2) sc_book_of.nd rfl (.inl rfl) (pe_makeR0 (mkBk T) (okR_Book_init T) (hr.mono (by decide)) rfl T.g_Book passN0))
      (pss_cons (ps_fld (pv 2) (pv 0) rfl)
      (pss_cons (ps_fld (pv 2) (pv 1) rfl)
      (pss_one (ps_ret (pv 2)))))), ?_⟩
    intro b dx nb ndx dxb
    refine ⟨[.ref b], [], rfl, rfl, (by show 0 ≤ sizeLine; decide), fun p np => ⟨b, dx, p, rfl, ?_, upd_same, fun H3 d0 k3 nd3 hb3 hd3 => ⟨rfl, ?_⟩⟩⟩
    · have pb : p ≠ b := fun e => by rw [e, upd_same] at np; cases np
      rw [upd_ne (Ne.symm pb), upd_same]
    have e3 : Ex H H3 := fun c o h => by
      have c1 : c ≠ b := ne_of_none h nb
      have c2 : c ≠ dx := ne_of_none h ndx
      have h3 : (upd (upd H dx (.own b)) b (.ins T.C_Book dx [])) c = some o := by rw [upd_ne c1, upd_ne c2]; exact h
      exact k3 c o c1 (by rw [upd_ne (ne_of_none h3 np)]; exact h3)
    refine ⟨_, rfl, _, rfl, b, T.C_Book, dx, _, rfl, hb3, T.cl_Book, T.na_Book__placed, (by show 2 < 1000; decide), ?_⟩
    refine ⟨_, rfl, _, rfl, b, T.C_Book, dx, _, rfl, upd_same, T.cl_Book, T.na_Book__last, (by show 2 < 1000; decide), ?_⟩
    rw [upd_upd]
    refine ⟨_, rfl, q _ b dx ((e3).mut nb) nb upd_same⟩
/-- book.copy() -/
def spBCopy (CB : Addr) : Sp := fun vs H Q _ => ∃ (b dx d : Addr) (last : Int), vs = [.ref b] ∧ H b = some (.ins CB dx (bkF d last)) ∧ ∀ H' c dy, Ex H H' → H c = none → H' c = some (.ins CB dy (bkF d last)) → Q (.ref c) H'
theorem ok_Book_copy (T : Txt P K mg) : FnOk P w K mg base CX0 14 T.f_Book_copy T.d_Book_copy ["self"] (spBCopy T.C_Book) := by
  refine T.F_Book_copy.ok sc_Book_copy (fun vs H Q E h => ?_) (fun cdv A outer s H vs Q E hr h => ?_)
  · obtain ⟨b, dx, d, last, rfl, _⟩ := h
    rfl
  · obtain ⟨b, dx, d, last, rfl, hb, q⟩ := h
    refine ⟨_, (pss_one (ps_ret (pe_call (ok_book_of T) (hr.mono (by decide)) rfl T.g_book_of T.F_book_of.kp T.b_book_of .nil pass0 (pa_cons (pe_fld (pv 0) rfl) (pa_cons (pe_fld (pv 0) rfl) pa_nil))))), ?_⟩
    exact ⟨_, rfl, b, T.C_Book, dx, _, .ref d, rfl, hb, T.cl_Book, T.na_Book__placed, rfl, _, rfl, b, T.C_Book, dx, _, .int last, rfl, hb, T.cl_Book, T.na_Book__last, rfl, d, last, rfl, q⟩
end
section
open Evl
theorem dkv_len (ps : List Ent) : (dkv ps).length = ps.length := by unfold dkv; rw [List.length_map]
section
variable {C CB CN : Addr} {σ : L2.St} {H : Hp} {te ta tb : TE} {b dx d : Addr} {ps : List Ent} {last : Int} {ns : List Int}
theorem eu_namesB {E : XK} {N : List Str} (h : Ev te σ H (.ref b)) (B : BkAt C CB H b dx d ps last) (few : (allNames (ps.map (·.2))).length + 1 < 4096) (od : Ord (allNames (ps.map (·.2))) N) : EvU (tProp CB (spBNames C CB) [] E te) σ H (N.map V.str) := fun H1 e1 Q q =>
  h H1 e1 _ fun H2 e2 => ⟨b, dx, _, rfl, (B.mono (e1.trans e2)).at_, b, dx, d, ps, last, rfl, B.mono (e1.trans e2), few, fun H3 p ss e3 np pm so hp => by
    rw [(srt_ord pm so).uniq od fun _ => Iff.rfl] at hp
    exact q p H3 (fresh_back e2 np) (e2.trans e3) hp⟩
end
end
section
open Evl
/-- a pair at its address: its number, its clause -/
abbrev Pr := Addr × Int × Addr × List Str
def Pr.ent (x : Pr) : Ent := (.inl x.2.1, x.2.2)
def lastOf (prs : List Pr) : Int := match prs.getLast? with | some x => x.2.1 | none => 0
theorem lastOf_snoc (prs : List Pr) (x : Pr) : lastOf (prs ++ [x]) = x.2.1 := by unfold lastOf; rw [List.getLast?_concat]
/-- the pairs before the i-th are taken -/
def GoodTo (prs : List Pr) (i : Nat) : Prop := ∀ j, (h : j < prs.length) → j < i → lastOf (prs.take j) < prs[j].2.1 ∧ prs[j].2.1 ≤ 999 ∧ j < 24 ∧ (putL (allNames ((prs.take (j + 1)).map (·.2.2)))).length ≤ 12
def spNumbered (C CB CN CT : Addr) : Sp := fun vs H Q E => ∃ (pl : Addr) (prs : List Pr), vs = [.ref CB, .ref pl] ∧ H pl = some (.lst (prs.map fun x => V.ref x.1)) ∧ (∀ x ∈ prs, H x.1 = some (.tup [.int x.2.1, .ref x.2.2.1])) ∧ ClsAt C H (prs.map (·.2.2)) ∧ prs.length ≤ 1000 ∧ (allNames (prs.map (·.2.2))).length + 1 < 4096 ∧
  (∀ i, (hi : i < prs.length) → GoodTo prs i → ¬ (lastOf (prs.take i) < prs[i].2.1 ∧ prs[i].2.1 ≤ 999) → ITxt prs[i].2.1 ∧ ∀ H' x, Ex H H' → H' x = some (.xd [("number", .int prs[i].2.1)]) → E (.ref CN) (some x) H') ∧
  (∀ i, (hi : i < prs.length) → GoodTo prs i → lastOf (prs.take i) < prs[i].2.1 → prs[i].2.1 ≤ 999 → 24 ≤ i → ∀ H' x, Ex H H' → H' x = some (.xd [("limit", .int 24)]) → E (.ref CT) (some x) H') ∧
  (∀ i, (hi : i < prs.length) → GoodTo prs i → lastOf (prs.take i) < prs[i].2.1 → prs[i].2.1 ≤ 999 → i < 24 → 12 < (putL (allNames ((prs.take (i + 1)).map (·.2.2)))).length → ∀ H' x, Ex H H' → H' x = some (.xd [("limit", .int 12)]) → E (.ref CT) (some x) H') ∧
  (GoodTo prs prs.length → ∀ H' b dx d, Ex H H' → H b = none → H d = none → H' b = some (.ins CB dx (bkF d (lastOf prs))) → H' d = some (.dK (dkv (prs.map Pr.ent))) → Q (.ref b) H')
theorem take_snoc {α : Type} {l : List α} {i : Nat} (h : i < l.length) : l.take (i + 1) = l.take i ++ [l[i]] := by rw [List.take_add_one, List.getElem?_eq_getElem h]; rfl
theorem names_take (prs : List Pr) (i : Nat) : (allNames ((prs.take i).map (·.2.2))).length ≤ (allNames (prs.map (·.2.2))).length := by
  conv => rhs; rw [← List.take_append_drop i prs]
  unfold allNames
  rw [List.map_append, List.flatMap_append, List.length_append]
  omega
theorem okR_Book_numbered (T : Txt P K mg) : FnOk P w K mg base (L2N.CX P w) 14 T.f_Book_numbered T.d_Book_numbered ["cls", "pairs"] (spNumbered T.C_Clause T.C_Book T.C_BadNumber T.C_TooMany) := by
  refine T.F_Book_numbered.okN sc_Book_numbered (fun vs H Q E h => ?_) (fun cdv A outer s H vs Q E hr h => ?_)
  · obtain ⟨pl, prs, rfl, _⟩ := h
    rfl
  · obtain ⟨pl, prs, rfl, hpl, htup, hcl, few, names, badN, full, many, good⟩ := h
    have hu := hr.un
    obtain ⟨u0, V0⟩ := T.V_Book_NUMBERS
    refine ⟨_, (pss_cons (ps_set (i := 2) sc_Book_numbered.nd rfl (.inl rfl) pe_dnewK)
      (pss_cons (ps_set (i := 3) sc_Book_numbered.nd rfl (.inl rfl) pe_int)
      (pss_cons (ps_for PassesOwn.leaving rfl (pi_list (pv 1)) (pg_tup rfl (pgs_cons (pg_name (i := 4) sc_Book_numbered.nd rfl (.inl rfl)) (pgs_cons (pg_name (i := 5) sc_Book_numbered.nd rfl (.inl rfl)) pgs_nil)))
        (pss_cons (ps_if (pt_not (pt_chain op_lt op_le (pv 3) (pv 4) (ClX.pe_cval (pv 0)))) (pss_one (L2N.ps_raise rfl (L2N.takes_of rfl rfl rfl rfl) (pmk1 T.E_BadNumber rfl fld_number T.o_BadNumber hr (pa_cons (pv 4) pa_nil) rfl (by decide)))) pss_nil)
        (pss_cons (ps_expr (pe_call (okG_check_room T) (hr.mono (by decide)) rfl T.g__check_room T.F__check_room.kp T.b__check_room .nil (L2N.passes_call (L2N.takes_of rfl rfl rfl rfl) (fun _ _ _ _ h => h)) (pa_cons (pv 2) (pa_cons (pv 5) pa_nil))))
        (pss_cons (ps_dput (by exact lt_u1 (k := 13) hu) (pv 2) (pv 4) (pv 5) rfl)
        (pss_one (ps_set (i := 3) sc_Book_numbered.nd rfl (.inl rfl) (pv 4)))))))
      (pss_one (ps_ret (pe_call (ok_book_of T) (hr.mono (by decide)) rfl T.g_book_of T.F_book_of.kp T.b_book_of .nil pass0 (pa_cons (pv 2) (pa_cons (pv 3) pa_nil)))))))), ?_⟩
    intro p np
    have e0 : Ex H (upd H p (.dK [])) := Ex.new np
    refine ⟨_, rfl, pl, rfl, ⟨_, sq_of (e0 _ _ hpl)⟩, for_list (K := K) (xs := prs.map fun x => V.ref x.1) (fun i σ H' => ∃ v4 v5 : Option V, σ = [some (V.ref T.C_Book), some (.ref pl), some (.ref p), some (.int (lastOf (prs.take i))), v4, v5] ∧ Ex H H' ∧ H' p = some (.dK (dkv ((prs.take i).map Pr.ent))) ∧ (∀ x ∈ prs.take i, x.2.1 ≤ lastOf (prs.take i)) ∧ GoodTo prs i)
      ⟨none, none, rfl, e0, upd_same, (fun x m => by rw [List.take_zero] at m; cases m), fun j h hj => absurd hj (by omega)⟩ (fun i σ H' _ ⟨_, _, _, e, _⟩ => sq_of (e _ _ hpl)) ?_ ?_⟩
    · rintro i y σ H2 hi ⟨v4, v5, rfl, e2, hp2, le, gd⟩
      have hi2 : i < prs.length := by
        have z := (List.getElem?_eq_some_iff.mp hi).1
        rw [List.length_map] at z
        exact z
      rw [List.getElem?_map, List.getElem?_eq_getElem hi2] at hi
      obtain rfl : V.ref prs[i].1 = y := Option.some.inj hi
      have mi : prs[i] ∈ prs := List.getElem_mem hi2
      have ht := e2 _ _ (htup _ mi)
      refine ⟨prs[i].1, _, rfl, st_of ht, rfl, _, _, rfl, _, _, rfl, rfl, ?_⟩
      refine ⟨_, rfl, _, rfl, _, _, rfl, rfl, _, rfl, ite2 (fun c1 => ?_) (fun c1 => ?_)⟩
      rotate_left
      · refine ⟨_, rfl, iteT ?_⟩
        obtain ⟨tx, bad⟩ := badN i hi2 gd fun h => c1 (decide_eq_true h.1)
        refine ⟨_, rfl, _, rfl, fun u hu => ?_, fun x nx => bad _ x (e2.trans (Ex.new nx)) upd_same⟩
        obtain ⟨tk, rfl⟩ := hu
        exact msg_ci fld_number (by decide) tx.lg tx.ln
      have lt := of_decide_eq_true c1
      refine ⟨_, rfl, T.C_Book, .type "type", .int 999, u0, rfl, T.R_Book, V0, _, _, rfl, rfl, _, rfl, ?_⟩
      by_cases c2 : prs[i].2.1 ≤ 999
      rotate_left
      · rw [decide_eq_false c2]
        refine iteT ?_
        obtain ⟨tx, bad⟩ := badN i hi2 gd fun h => c2 h.2
        refine ⟨_, rfl, _, rfl, fun u hu => ?_, fun x nx => bad _ x (e2.trans (Ex.new nx)) upd_same⟩
        obtain ⟨tk, rfl⟩ := hu
        exact msg_ci fld_number (by decide) tx.lg tx.ln
      rw [decide_eq_true c2]
      refine iteF ?_
      have tk := take_snoc hi2
      have nm : ((prs.take i).map Pr.ent).map (·.2) ++ [(prs[i].2.2.1, prs[i].2.2.2)] = (prs.take (i + 1)).map (·.2.2) := by
        rw [tk, List.map_append, List.map_map]
        rfl
      refine ⟨_, rfl, _, rfl, p, prs[i].2.2.1, prs[i].2.2.2, (prs.take i).map Pr.ent, rfl, hp2, ?_, ?_, ?_, ?_, ?_, ?_⟩
      · rw [nm]
        intro c m
        obtain ⟨x, mx, rfl⟩ := List.mem_map.mp m
        exact hcl.mono e2 _ (List.mem_map.mpr ⟨x, List.mem_of_mem_take mx, rfl⟩)
      · rw [List.length_map]; have := List.length_take_le i prs; omega
      · rw [nm]; have := names_take prs (i + 1); omega
      · intro h H3 x e3
        rw [List.length_map, List.length_take] at h
        exact full i hi2 gd lt c2 (by omega) H3 x (e2.trans e3)
      · intro h1 h2 H3 x e3
        rw [nm] at h2
        rw [List.length_map, List.length_take] at h1
        exact many i hi2 gd lt c2 (by omega) h2 H3 x (e2.trans e3)
      · intro h1 h2 H3 e3
        rw [nm] at h2
        rw [List.length_map, List.length_take] at h1
        have hp3 := e3 _ _ hp2
        refine ⟨_, rfl, _, rfl, _, rfl, p, _, rfl, DPut.k (k := .inl prs[i].2.1) hp3 (by rw [dkv_len, List.length_map, sizeLine_eq]; have := List.length_take_le i prs; omega), ?_⟩
        have nk : (.inl prs[i].2.1 : Key) ∉ ((prs.take i).map Pr.ent).map (·.1) := fun h => by
          rw [List.map_map] at h
          obtain ⟨x, mx, ex⟩ := List.mem_map.mp h
          have ex2 : x.2.1 = prs[i].2.1 := Sum.inl.inj ex
          have := le x mx
          omega
        refine ⟨_, rfl, some (.int prs[i].2.1), some (.ref prs[i].2.2.1), ?_, (e2.trans e3).mut np, ?_, ?_, ?_⟩
        · rw [tk, lastOf_snoc]; rfl
        · rw [upd_same, putK_new _ (valV_none (by rw [dkv_keys]; exact nk)), tk, List.map_append, dkv_app]
          rfl
        · intro x mx
          rw [tk] at mx ⊢
          rw [lastOf_snoc]
          rcases List.mem_append.mp mx with m | m
          · have := le x m; omega
          · rw [List.mem_singleton.mp m]; omega
        · intro j hj hji
          by_cases e : j = i
          · subst e
            exact ⟨lt, c2, by omega, h2⟩
          · exact gd j hj (by omega)
    · rintro σ H2 ⟨v4, v5, rfl, e2, hp2, le, gd⟩
      rw [List.length_map] at gd
      rw [List.length_map, List.take_length] at hp2 ⊢
      refine ⟨_, rfl, _, rfl, p, _, rfl, fun H3 b dx e3 nb hb => ?_⟩
      exact good gd H3 b dx p (e2.trans e3) (fresh_back e2 nb) np hb (e3 _ _ hp2)
end
section
open Evl
theorem in_ints {k : Int} {ns : List Int} : inV (.int k) (ns.map V.int) = decide (k ∈ ns) := by
  unfold inV
  rw [List.any_map]
  induction ns with
  | nil => rfl
  | cons y r ih =>
    rw [List.any_cons, ih]
    have e : ((fun u => eqV u (V.int k)) ∘ V.int) y = decide (k = y) := by
      show eqV (V.int y) (V.int k) = _
      by_cases h : k = y
      · subst h; simp [eqV]
      · simp [eqV, h, Ne.symm h]
    rw [e]
    by_cases h : k = y <;> simp [h]
theorem flat_ints (ns : List Int) : (ns.map V.int).all flatV = true := by
  rw [List.all_map]
  exact List.all_eq_true.mpr fun _ _ => rfl
theorem SameV.ints {H : Hp} {n : Nat} {a b : Addr} {L : List Int} (ha : H a = some (.lst (L.map V.int))) (hb : H b = some (.lst (L.map V.int))) (few : L.length ≤ 100) : SameV H (n + 1) (.ref a) (.ref b) :=
  .lst ha hb rfl (by rw [List.length_map]; exact few) fun i x y hx hy => by
    rw [hx] at hy
    cases hy
    rw [List.getElem?_map] at hx
    cases c : L[i]? with
    | none => rw [c] at hx; cases hx
    | some z => rw [c] at hx; obtain rfl : V.int z = x := Option.some.inj hx; exact .flat rfl
/-- _law_names_in(rows) -/
def rowNames (rs : List (Addr × List Str)) : List Str := rs.flatMap fun x => x.2.map bare
def RowsAt (H : Hp) (rs : List (Addr × List Str)) : Prop := ∀ x ∈ rs, H x.1 = some (.lst (x.2.map V.str)) ∧ ∀ z ∈ x.2, isLit z = true
theorem RowsAt.mono {H H' : Hp} {rs : List (Addr × List Str)} (h : RowsAt H rs) (e : Ex H H') : RowsAt H' rs := fun x m => ⟨e _ _ (h x m).1, (h x m).2⟩
def spNamesIn : Sp := fun vs H Q _ => ∃ (r : Addr) (rs : List (Addr × List Str)), vs = [.ref r] ∧ H r = some (.lst (rs.map fun x => V.ref x.1)) ∧ RowsAt H rs ∧ (rowNames rs).length ≤ 60 ∧ ∀ N, Ord (rowNames rs) N → RetL (N.map V.str) H Q
theorem rowNames_take {rs : List (Addr × List Str)} (i : Nat) : (rowNames (rs.take i)).length ≤ (rowNames rs).length := by
  conv => rhs; rw [← List.take_append_drop i rs]
  unfold rowNames
  rw [List.flatMap_append, List.length_append]
  omega
end
section
open Evl
theorem small_itxt : ∀ k : Nat, k < 1001 → (k : Int).natAbs.log2 < 1920 ∧ (toString (k : Int) : Str).length ≤ 1000 := by decide +kernel
theorem itxt_of {n : Int} (h1 : 0 ≤ n) (h2 : n ≤ 1000) : ITxt n := by
  have z := small_itxt n.toNat (by omega)
  rw [Int.toNat_of_nonneg h1] at z
  exact ⟨z.1, z.2⟩
/-- a number, its clause, its row -/
structure Rc where
  n : Int
  a : Addr
  ra : Addr
  R : List Str
  D : List Str
def Rc.ent (e : Rc) : Ent := (.inl e.n, e.a, e.D)
/-- the law's own table -/
structure TabAt (H : Hp) (ln lr : Addr) (es : List Rc) : Prop where
  num : H ln = some (.lst ((es.map Rc.n).map V.int))
  rows : H lr = some (.lst (es.map fun e => V.ref e.ra))
  each : ∀ e ∈ es, H e.ra = some (.lst (e.R.map V.str))
theorem TabAt.mono {H H' : Hp} {ln lr : Addr} {es : List Rc} (t : TabAt H ln lr es) (e : Ex H H') : TabAt H' ln lr es := ⟨e _ _ t.num, e _ _ t.rows, fun x m => e _ _ (t.each x m)⟩
def Rc.row (e : Rc) : Addr × List Str := (e.ra, e.R)
/-- a row and the literals of its clause -/
def RowD (R D : List Str) : Prop := RowL 6 R ∧ ∃ N, Ord (R.map bare) N ∧ D = due R N
structure EsOk (es : List Rc) (last : Int) : Prop where
  asc : (es.map Rc.n).Pairwise (· < ·)
  rng : ∀ e ∈ es, 1 ≤ e.n ∧ e.n ≤ last
  row : ∀ e ∈ es, RowD e.R e.D
  few : es.length ≤ 24
  sum : (rowNames (es.map Rc.row)).length ≤ 144
  l0 : 0 ≤ last
  l9 : last ≤ 999
theorem EsOk.nd {es : List Rc} {last : Int} (o : EsOk es last) : (es.map Rc.n).Nodup := o.asc.imp fun h e => by omega
theorem Rc.keys (es : List Rc) : (es.map Rc.ent).map (·.1) = (es.map Rc.n).map Sum.inl := by
  rw [List.map_map, List.map_map]
  rfl
theorem EsOk.keyNd {es : List Rc} {last : Int} (o : EsOk es last) : ((es.map Rc.ent).map (·.1)).Nodup := by
  rw [Rc.keys]
  exact List.Pairwise.map _ (fun a b h e => h (Sum.inl.inj e)) o.nd
theorem EsOk.txt {es : List Rc} {last : Int} (o : EsOk es last) {e : Rc} (m : e ∈ es) : ITxt e.n := itxt_of (by have := o.rng e m; omega) (by have := o.rng e m; have := o.l9; omega)
theorem rowD {R D : List Str} (h : RowD R D) (z : Str) : z ∈ D ↔ z ∈ R := by
  obtain ⟨_, N, od, ed⟩ := h
  rw [ed]
  exact due_mem od z
theorem rowLen {R D : List Str} (h : RowD R D) : D.length = R.length := by
  obtain ⟨r, N, od, ed⟩ := h
  rw [ed, r.due_len od]
theorem RowD.litsOk {R D : List Str} (h : RowD R D) : LitsOk D := by
  obtain ⟨row, N, od, rfl⟩ := h
  exact ⟨by rw [row.due_len od]; exact Nat.le_trans row.few (by decide), fun z hz => ⟨row.lit z ((due_mem od z).mp hz), row.txt z ((due_mem od z).mp hz)⟩⟩
theorem allNames_ent (es : List Rc) : allNames ((es.map Rc.ent).map (·.2)) = es.flatMap fun e => e.D.map bare := by
  unfold allNames
  rw [List.map_map, List.flatMap_map]
  rfl
theorem rowNames_row (es : List Rc) : rowNames (es.map Rc.row) = es.flatMap fun e => e.R.map bare := by
  unfold rowNames
  rw [List.flatMap_map]
  rfl
theorem flat_len {α : Type} {es : List α} (f g : α → List Str) (h : ∀ e ∈ es, (f e).length = (g e).length) : (es.flatMap f).length = (es.flatMap g).length := by
  induction es with
  | nil => rfl
  | cons a r ih =>
    rw [List.flatMap_cons, List.flatMap_cons, List.length_append, List.length_append, h a List.mem_cons_self, ih fun e m => h e (List.mem_cons_of_mem _ m)]
theorem EsOk.lenD {es : List Rc} {last : Int} (o : EsOk es last) : (allNames ((es.map Rc.ent).map (·.2))).length ≤ 144 := by
  have z := o.sum
  rw [rowNames_row] at z
  have z2 : (es.flatMap fun e => e.D.map bare).length = (es.flatMap fun e => e.R.map bare).length := flat_len _ _ fun e m => by rw [List.length_map, List.length_map, rowLen (o.row e m)]
  rw [allNames_ent, z2]
  exact z
theorem EsOk.memR {es : List Rc} {last : Int} (o : EsOk es last) (x : Str) : x ∈ rowNames (es.map Rc.row) ↔ x ∈ allNames ((es.map Rc.ent).map (·.2)) := by
  rw [rowNames_row, allNames_ent, List.mem_flatMap, List.mem_flatMap]
  constructor
  · rintro ⟨e, m, h⟩
    exact ⟨e, m, (mem_bare (rowD (o.row e m)) x).mpr h⟩
  · rintro ⟨e, m, h⟩
    exact ⟨e, m, (mem_bare (rowD (o.row e m)) x).mp h⟩
end
section
open Evl
/-- _law_numbers(source, many) -/
def spNumbers : Sp := fun vs H Q _ => ∃ (a l : Addr) (ns : List Int) (many : Nat), vs = [.ref a, .int (many : Int)] ∧ many ≤ 30 ∧ SrcL H a l ns ∧
  ∀ (H' : Hp) (p : Addr) (nl : List Int), H p = none → SrcL H' a l ns → But a H H' → H' p = some (.lst (nl.map V.int)) → nl.length = many → nl.Pairwise (· < ·) → (∀ n ∈ nl, 1 ≤ n ∧ n ≤ 40 * (many : Int)) → Q (.ref p) H'
theorem ok__law_numbers (T : Txt P K mg) : FnOk P w K mg base CX0 2 T.f__law_numbers T.d__law_numbers ["_law_source_here", "_law_many"] spNumbers := by
  refine T.F__law_numbers.ok sc__law_numbers (fun vs H Q E h => ?_) (fun cdv A outer s H vs Q E hr h => ?_)
  · obtain ⟨a, l, ns, many, rfl, _⟩ := h
    rfl
  · obtain ⟨a, l, ns, many, rfl, m30, S, q⟩ := h
    refine ⟨_, (pss_cons (ps_set (i := 2) sc__law_numbers.nd rfl (.inl rfl) (pe_call (okL__law_take T) (hr.mono (by decide)) rfl T.g__law_take T.F__law_take.kp T.b__law_take .nil pass0 (pa_cons (pv 0) (pa_cons pe_int pa_nil))))
      (pss_cons (ps_set (i := 3) sc__law_numbers.nd rfl (.inl rfl) (pe_lst pa_nil))
      (pss_cons (ps_set (i := 4) sc__law_numbers.nd rfl (.inl rfl) pe_int)
      (pss_cons (ps_for PassesOwn.never rfl (pi_range1 rfl T.n_range (pa_cons (pv 1) pa_nil)) (pg_name (i := 5) sc__law_numbers.nd rfl (.inl rfl)) (pss_cons (ps_set (i := 4) sc__law_numbers.nd rfl (.inl rfl) (pe_op op_add (pv 4) pe_int))
      (Evl.pss_cut (ps_if (pt_cmpR op_eq (pv 2) pe_int (nomark _)) (pss_one (ps_set (i := 4) sc__law_numbers.nd rfl (.inl rfl) (pe_op op_add (pv 4) (pe_call (okL__law_take T) (hr.mono (by decide)) rfl T.g__law_take T.F__law_take.kp T.b__law_take .nil pass0 (pa_cons (pv 0) (pa_cons pe_int pa_nil)))))) pss_nil)
      (pss_one (ps_expr (pe_bm PySem.F.plainAttrs_list PySem.F.slot_list_append PySem.F.type_list_append mt_append (pv 3) (pa_cons (pv 4) pa_nil)))))))
      (pss_one (ps_ret (pv 3))))))), ?_⟩
    refine ⟨.ref a, rfl, a, 2, l, ns, rfl, S, by decide, by decide, fun H1 g g0 g1 S1 B1 => ?_⟩
    dsimp only [gName]
    refine q_asgL (xs := []) (el_lst ea_nil (by decide)) fun p H2 np e2 hp => ?_
    refine q_asg (v := .int 0) ev_c fun H3 e3 => ?_
    have np0 : H p = none := by
      cases h : H p with
      | none => rfl
      | some o =>
        by_cases e : p = a
        · obtain ⟨⟨_, _, _, _, _, h1⟩, _⟩ := S1
          rw [e, h1] at np; cases np
        · rw [B1 p o e h] at np; cases np
    have off := srl_off S1 np
    have B3 : But a H H3 := fun c o n h => e3 _ _ (e2 _ _ (B1 c o n h))
    refine q_forR1 (n := (many : Int)) (j := 5) (ea_cons (ev_var rfl) ea_nil) (by omega) (fun i σ H' => ∃ (v5 : Option V) (last : Int) (nl : List Int), σ = [some (V.ref a), some (.int (many : Int)), some (.int g), some (.ref p), some (.int last), v5] ∧ SrcL H' a l ns ∧ But a H H' ∧ H' p = some (.lst (nl.map V.int)) ∧ nl.length = i ∧ nl.Pairwise (· < ·) ∧ (∀ n ∈ nl, 1 ≤ n ∧ n ≤ last) ∧ 0 ≤ last ∧ last ≤ 40 * (i : Int))
      (fun H4 e4 => ⟨_, 0, [], rfl, srl_ex S1 ((e2.trans e3).trans e4), fun c o n h => e4 _ _ (B3 c o n h), e4 _ _ (e3 _ _ hp), rfl, .nil, (fun n m => nomatch m), by omega, by omega⟩) ?_ ?_
    · rintro i σ H4 hi ⟨v5, last, nl, rfl, S4, B4, h4, len, asc, rng, l0, l1⟩
      refine q_asg (v := .int (last + 1)) (ev_op (ev_var rfl) ev_c (fun H1 _ Q q => ⟨_, _, rfl, rfl, q H1 (Ex.refl H1)⟩)) fun H5 e5 => ?_
      refine ⟨fun σ' H' => ∃ last2 : Int, σ' = [some (V.ref a), some (.int (many : Int)), some (.int g), some (.ref p), some (.int last2), some (.int (i : Int))] ∧ last + 1 ≤ last2 ∧ last2 ≤ last + 40 ∧ SrcL H' a l ns ∧ But a H H' ∧ H' p = some (.lst (nl.map V.int)), ?_, ?_⟩
      · have B5 : But a H H5 := fun c o n h => e5 _ _ (B4 c o n h)
        refine s_when (b := decide (V.int g = V.int 1)) (et_test (ev_op (ev_var rfl) ev_c (rv_eq rfl))) (fun _ H6 e6 => ?_) (fun _ H6 e6 => ⟨last + 1, rfl, by omega, by omega, srl_ex S4 (e5.trans e6), fun c o n h => e6 _ _ (B5 c o n h), e6 _ _ (e5 _ _ h4)⟩)
        refine ⟨_, rfl, .ref a, rfl, a, 40, l, ns, rfl, srl_ex S4 (e5.trans e6), by decide, by decide, fun H7 k k0 k1 S7 B7 => ⟨_, _, rfl, rfl, ?_⟩⟩
        exact ⟨last + 1 + k, rfl, by omega, by omega, S7, fun c o n h => B7 c o n (e6 _ _ (B5 c o n h)), B7 _ _ off.1 (e6 _ _ (e5 _ _ h4))⟩
      · rintro σ' H6 ⟨last2, rfl, a1, a2, S6, B6, h6⟩
        refine s_app (K := K) h6 (ev_var rfl) (ev_var rfl) (by rw [List.length_map]; omega) fun H7 e7 => ⟨_, last2, nl ++ [last2], rfl, srl_put (srl_ex S6 e7) off.1 off.2, ?_, ?_, by rw [List.length_append, List.length_singleton]; omega, ?_, ?_, by omega, by omega⟩
        · exact But.upd2 (fun c o n h => e7 _ _ (B6 c o n h)) np0
        · rw [upd_same, List.map_append]; rfl
        · rw [List.pairwise_append]
          refine ⟨asc, by simp, fun x hx y hy => ?_⟩
          rw [List.mem_singleton.mp hy]
          have := (rng x hx).2
          omega
        · intro n hn
          rcases List.mem_append.mp hn with m | m
          · have := rng n m; omega
          · rw [List.mem_singleton.mp m]; omega
    · rintro σ H4 ⟨v5, last, nl, rfl, S4, B4, h4, len, asc, rng, l0, l1⟩
      refine s_ret (ev_var rfl) fun H5 e5 => q H5 p nl np0 (srl_ex S4 e5) (fun c o n h => e5 _ _ (B4 c o n h)) (e5 _ _ h4) (by omega) asc fun n hn => ?_
      have := rng n hn
      omega
end
section
open Evl
theorem rawNumbered (T : Txt P K mg) : FnR P w K mg base (L2N.CX P w) 14 T.f_Book_numbered (spNumbered T.C_Clause T.C_Book T.C_BadNumber T.C_TooMany) :=
  ((okR_Book_numbered T).raw T.b_Book_numbered .nil).imp fun vs H Q E h => by rw [List.append_nil]; exact h
abbrev Rx := Int × Addr × List Str
def Rc.rx (e : Rc) : Rx := (e.n, e.ra, e.R)
def lastX (xs : List Rx) : Int := match xs.getLast? with | some x => x.1 | none => 0
theorem lastOf_take {prs : List Pr} {i : Nat} (h : i < prs.length) : lastOf (prs.take i) = if i = 0 then 0 else (prs[i - 1]'(by omega)).2.1 := by
  cases i with
  | zero => rfl
  | succ j =>
    rw [if_neg (by omega), take_snoc (by omega), lastOf_snoc]
    rfl
theorem flat6 {α : Type} {es : List α} (f : α → List Str) (h : ∀ e ∈ es, (f e).length ≤ 6) : (es.flatMap f).length ≤ 6 * es.length := by
  induction es with
  | nil => simp
  | cons a r ih =>
    rw [List.flatMap_cons, List.length_append, List.length_cons]
    have h1 := h a List.mem_cons_self
    have h2 := ih fun e m => h e (List.mem_cons_of_mem _ m)
    omega
/-- _law_book(numbers, rows) -/
def spMkBook (C CB : Addr) : Sp := fun vs H Q _ => ∃ (ln lr : Addr) (xs : List Rx) (nms : List Str), vs = [.ref ln, .ref lr] ∧ H ln = some (.lst ((xs.map (·.1)).map V.int)) ∧ H lr = some (.lst (xs.map fun x => V.ref x.2.1)) ∧ (∀ x ∈ xs, H x.2.1 = some (.lst (x.2.2.map V.str)) ∧ RowL 6 x.2.2) ∧ xs.length ≤ 24 ∧
  (xs.map (·.1)).Pairwise (· < ·) ∧ (∀ x ∈ xs, 1 ≤ x.1 ∧ x.1 ≤ 999) ∧ nms.length ≤ 12 ∧ (∀ x ∈ xs, ∀ z ∈ x.2.2, bare z ∈ nms) ∧
  ∀ H' b dx d (es : List Rc), Ex H H' → H b = none → H d = none → H' b = some (.ins CB dx (bkF d (lastX xs))) → H' d = some (.dK (dkv (es.map Rc.ent))) → ClsAt C H' ((es.map Rc.ent).map (·.2)) → es.map Rc.rx = xs → (∀ e ∈ es, RowD e.R e.D) → Q (.ref b) H'
theorem ok__law_book (T : Txt P K mg) : FnOk P w K mg base CX0 15 T.f__law_book T.d__law_book ["_law_numbers_here", "_law_rows"] (spMkBook T.C_Clause T.C_Book) := by
  refine T.F__law_book.ok sc__law_book (fun vs H Q E h => ?_) (fun cdv A outer s H vs Q E hr h => ?_)
  · obtain ⟨ln, lr, xs, nms, rfl, _⟩ := h
    rfl
  · obtain ⟨ln, lr, xs, nms, rfl, hn, hrw, each, few, asc, rng, n12, sub, q⟩ := h
    refine ⟨_, (pss_one (ps_ret (ClX.pe_cmeth (pe_glob (v := .ref T.C_Book) rfl T.g_Book rfl) T.R_Book T.M_Book_numbered (rawNumbered T) (hr.mono (by decide)) passN0 (pa_cons (pe_lc (own := [("_law_k", 2)]) (g := gName 2) (te := tTup (tCons (tOp (rIxL K) (tVar 0) (tVar 2)) (tCons (tCall (spClause T.C_Clause T.C_BadLiteral T.C_BothSigns T.C_TooMany 6) [] E0 (tCons (tOp (rIxL K) (tVar 1) (tVar 2)) tNil)) tNil))) (by rfl) sc__law_book.nd (pi_range1 rfl T.n_range (pa_cons (pe_callB call_len_seq (by rfl) T.n_len PySem.boot_len (pa_cons (pv 1) pa_nil)) pa_nil)) (blkOk_by (own := [("_law_k", 2)]) (N := N__law_book) (sc := defScope s__law_book) (by decide +kernel)) (fun _ _ _ _ _ => pg_name (i := 2) sc__law_book.nd rfl (Or.inl rfl)) (fun _ _ _ _ _ => pts_nil) (fun _ _ _ _ _ => (pe_tup (pa_cons (pe_ix ix_list (pv 0) (pv 2) (fun _ _ => rfl)) (pa_cons (pe_call (ok__law_clause T) (hr.mono (by decide)) rfl T.g__law_clause T.F__law_clause.kp T.b__law_clause .nil passN0 (pa_cons (pe_ix ix_list (pv 1) (pv 2) (fun _ _ => rfl)) pa_nil)) pa_nil))))) pa_nil)))), ?_⟩
    have lx : (xs.map fun x => V.ref x.2.1).length = xs.length := List.length_map _
    refine ⟨rfl, _, rfl, lr, _, rfl, .inl (SqL.of hrw), ((xs.map fun x => V.ref x.2.1).length : Int), rfl, by omega, by rw [lx]; omega, fun Dl nD => ?_⟩
    refine lc_range (lo := 0) (n := ((xs.map fun x => V.ref x.2.1).length : Int).toNat) (fun i H' => Ex H H' ∧ ∃ t : Nat → Pr, H' Dl = some (.lst ((List.range i).map fun k => V.ref (t k).1)) ∧ ∀ k x, k < i → xs[k]? = some x → H' (t k).1 = some (.tup [.int (t k).2.1, .ref (t k).2.2.1]) ∧ (t k).2.1 = x.1 ∧ ClAt T.C_Clause H' (t k).2.2.1 (t k).2.2.2 ∧ RowD x.2.2 (t k).2.2.2) ⟨Ex.new nD, fun _ => (0, 0, 0, []), upd_same, fun k x hk => absurd hk (by omega)⟩ ?_ ?_
    · rintro i H3 hi ⟨q1, t, q2, q3⟩
      have li : i < xs.length := by rw [lx] at hi; omega
      have e0 : (0 : Int) + (i : Int) = (i : Int) := Int.zero_add _
      rw [e0]
      have mx : xs[i] ∈ xs := List.getElem_mem li
      obtain ⟨hrow, row⟩ := each _ mx
      obtain ⟨N, od⟩ := ord_any (xs[i].2.2.map bare)
      have gn : ((xs.map (·.1)).map V.int)[i]? = some (.int xs[i].1) := by rw [List.map_map, List.getElem?_map, List.getElem?_eq_getElem li]; rfl
      have gr : (xs.map fun x => V.ref x.2.1)[i]? = some (.ref xs[i].2.1) := by rw [List.getElem?_map, List.getElem?_eq_getElem li]; rfl
      refine ⟨rfl, ?_⟩
      unfold tYes
      dsimp only
      rw [if_pos rfl]
      have evn : Ev (tOp (rIxL K) (tVar 0) (tVar 2)) [some (V.ref ln), some (.ref lr), some (.int (i : Int))] H3 (.int xs[i].1) := ev_op (ev_var rfl) (ev_var rfl) (rv_ixL (sq_of (q1 _ _ hn)) (atI_nat (j := i) gn))
      have evr : Ev (tOp (rIxL K) (tVar 1) (tVar 2)) [some (V.ref ln), some (.ref lr), some (.int (i : Int))] H3 (.ref xs[i].2.1) := ev_op (ev_var rfl) (ev_var rfl) (rv_ixL (sq_of (q1 _ _ hrw)) (atI_nat (j := i) gr))
      refine evn H3 (Ex.refl H3) _ fun H4 e4 => ?_
      refine ec_clause (C := T.C_Clause) (CB := T.C_BadLiteral) (CS := T.C_BothSigns) (CT := T.C_TooMany) (evr.mono e4) (e4 _ _ (q1 _ _ hrow)) row od H4 (Ex.refl H4) _ fun x H5 e5 cl => ?_
      refine ⟨(by show 2 ≤ sizeLine; rw [sizeLine_eq]; decide), fun p np => ?_⟩
      have e35 := e4.trans e5
      have hD5 := e35 _ _ q2
      have pD : p ≠ Dl := fun e => by rw [e, hD5] at np; cases np
      have e6 : Ex H3 (upd H5 p (.tup [.int xs[i].1, .ref x])) := e35.trans (Ex.new np)
      refine ⟨(List.range i).map fun k => V.ref (t k).1, by rw [upd_ne (Ne.symm pD)]; exact hD5, by rw [List.length_map, List.length_range]; exact sz_lt (by omega), (q1.trans e6).mut nD, fun k => if k = i then (p, xs[i].1, x, due xs[i].2.2 N) else t k, ?_, fun k y hk hy => ?_⟩
      · rw [upd_same, List.range_succ, List.map_append, List.map_cons, List.map_nil]
        dsimp only
        rw [if_pos rfl]
        congr 3
        exact List.map_congr_left fun k hk => by rw [if_neg (by have := List.mem_range.mp hk; omega)]
      · have toD : ∀ {c : Addr} {o : HO}, (upd H5 p (.tup [.int xs[i].1, .ref x])) c = some o → (∀ ys, o ≠ .lst ys) → (upd (upd H5 p (.tup [.int xs[i].1, .ref x])) Dl (.lst ((List.range i).map (fun k => V.ref (t k).1) ++ [.ref p]))) c = some o := fun {c o} h no => by
          rw [upd_ne (fun e => by rw [e, upd_ne (Ne.symm pD), hD5] at h; cases h; exact no _ rfl)]
          exact h
        have clD : ∀ {c : Addr} {D : List Str}, ClAt T.C_Clause (upd H5 p (.tup [.int xs[i].1, .ref x])) c D → ClAt T.C_Clause (upd (upd H5 p (.tup [.int xs[i].1, .ref x])) Dl (.lst ((List.range i).map (fun k => V.ref (t k).1) ++ [.ref p]))) c D := fun {c D} h => by
          obtain ⟨dy, pp, h1, h2⟩ := h
          exact ⟨dy, pp, toD h1 (by simp), toD h2 (by simp)⟩
        by_cases c : k = i
        · subst c
          rw [List.getElem?_eq_getElem li] at hy
          cases hy
          dsimp only
          rw [if_pos rfl]
          exact ⟨toD upd_same (by simp), rfl, clD (cl.mono (Ex.new np)), row, N, od, rfl⟩
        · dsimp only
          rw [if_neg c]
          obtain ⟨z1, z2, z3, z4⟩ := q3 k y (by omega) hy
          exact ⟨toD (e6 _ _ z1) (by simp), z2, clD (z3.mono e6), z4⟩
    · rintro H3 ⟨q1, t, q2, q3⟩
      have nx : ((xs.map fun x => V.ref x.2.1).length : Int).toNat = xs.length := by rw [lx]; omega
      rw [nx] at q2 q3
      have few24 := few
      generalize hprs : (List.range xs.length).map t = prs
      have lp : prs.length = xs.length := by rw [← hprs, List.length_map, List.length_range]
      have at_ : ∀ i (h : i < prs.length), prs[i] = t i := fun i h => by
        subst hprs
        rw [List.getElem_map, List.getElem_range]
      have fact : ∀ i (h : i < prs.length), H3 prs[i].1 = some (.tup [.int prs[i].2.1, .ref prs[i].2.2.1]) ∧ prs[i].2.1 = (xs[i]'(by omega)).1 ∧ ClAt T.C_Clause H3 prs[i].2.2.1 prs[i].2.2.2 ∧ RowD (xs[i]'(by omega)).2.2 prs[i].2.2.2 := fun i h => by
        rw [at_ i h]
        exact q3 i _ (by omega) (List.getElem?_eq_getElem (by omega))
      have all : ∀ x ∈ prs, H3 x.1 = some (.tup [.int x.2.1, .ref x.2.2.1]) ∧ ClAt T.C_Clause H3 x.2.2.1 x.2.2.2 ∧ ∃ R, RowD R x.2.2.2 ∧ ∀ z ∈ R, bare z ∈ nms := fun x m => by
        obtain ⟨i, hi, rfl⟩ := List.mem_iff_getElem.mp m
        obtain ⟨f1, f2, f3, f4⟩ := fact i hi
        exact ⟨f1, f3, _, f4, sub _ (List.getElem_mem _)⟩
      have nums : ∀ i (h : i < prs.length), lastOf (prs.take i) < prs[i].2.1 ∧ prs[i].2.1 ≤ 999 := fun i h => by
        have r := rng _ (List.getElem_mem (l := xs) (n := i) (by omega))
        rw [(fact i h).2.1, lastOf_take h]
        refine ⟨?_, r.2⟩
        by_cases i0 : i = 0
        · rw [if_pos i0]; omega
        · rw [if_neg i0, (fact (i - 1) (by omega)).2.1]
          have z := List.pairwise_iff_getElem.mp asc (i - 1) i (by rw [List.length_map]; omega) (by rw [List.length_map]; omega) (by omega)
          rw [List.getElem_map, List.getElem_map] at z
          exact z
      have inN : ∀ k, ∀ z ∈ allNames ((prs.take k).map (·.2.2)), z ∈ nms := fun k z hz => by
        unfold allNames at hz
        rw [List.mem_flatMap] at hz
        obtain ⟨c, mc, hz⟩ := hz
        obtain ⟨x, mx, rfl⟩ := List.mem_map.mp mc
        obtain ⟨y, my, rfl⟩ := List.mem_map.mp hz
        obtain ⟨_, _, R, rd, sb⟩ := all x (List.mem_of_mem_take mx)
        exact sb y ((rowD rd y).mp my)
      have nmOk : ∀ k, (putL (allNames ((prs.take k).map (·.2.2)))).length ≤ 12 := fun k => Nat.le_trans (perm_len_le (putL_nd _) fun x hx => inN k x ((putL_mem).mp hx)) n12
      refine ⟨Dl, prs, rfl, ?_, fun x m => (all x m).1, fun c m => ?_, by omega, ?_, fun i hi gd no => absurd (nums i hi) no, fun i hi _ _ _ big => absurd big (by omega), fun i hi _ _ _ _ big => absurd (nmOk (i + 1)) (by omega), fun gd H4 b dx d e4 nb nd hb hd => ?_⟩
      · rw [q2, ← hprs, List.map_map]
        rfl
      · obtain ⟨x, mx, rfl⟩ := List.mem_map.mp m
        obtain ⟨_, c, R, rd, _⟩ := all x mx
        exact ⟨c, rd.litsOk⟩
      · have z : (allNames (prs.map (·.2.2))).length ≤ 6 * (prs.map (·.2.2)).length := by
          unfold allNames
          refine flat6 _ fun c m => ?_
          obtain ⟨x, mx, rfl⟩ := List.mem_map.mp m
          obtain ⟨_, _, R, rd, _⟩ := all x mx
          rw [List.length_map, rowLen rd]
          exact rd.1.few
        rw [List.length_map] at z
        omega
      · have last : lastOf prs = lastX xs := by
          unfold lastOf lastX
          rw [List.getLast?_eq_getElem?, List.getLast?_eq_getElem?, lp]
          cases h : xs[xs.length - 1]? with
          | none =>
            have h1 := List.getElem?_eq_none_iff.mp h
            rw [List.getElem?_eq_none (by omega)]
          | some x =>
            obtain ⟨h1, h2⟩ := List.getElem?_eq_some_iff.mp h
            have h3 : xs.length - 1 < prs.length := by omega
            rw [List.getElem?_eq_getElem h3]
            have h4 := (fact _ h3).2.1
            rw [h2] at h4
            exact h4
        rw [last] at hb
        refine q H4 b dx d ((List.range xs.length).map fun k => (⟨(t k).2.1, (t k).2.2.1, (xs.getD k (0, 0, [])).2.1, (xs.getD k (0, 0, [])).2.2, (t k).2.2.2⟩ : Rc)) (q1.trans e4) (fresh_back q1 nb) (fresh_back q1 nd) hb ?_ ?_ ?_ ?_
        · rw [hd, ← hprs, List.map_map, List.map_map]
          rfl
        · intro c m
          rw [List.map_map, List.map_map] at m
          obtain ⟨k, mk, rfl⟩ := List.mem_map.mp m
          have hk := List.mem_range.mp mk
          obtain ⟨_, f2, f3, f4⟩ := q3 k _ hk (List.getElem?_eq_getElem hk)
          exact ⟨f3.mono e4, f4.litsOk⟩
        · refine List.ext_getElem (by rw [List.length_map, List.length_map, List.length_range]) fun k h1 h2 => ?_
          rw [List.getElem_map, List.getElem_map, List.getElem_range]
          obtain ⟨_, f2, _, _⟩ := q3 k _ h2 (List.getElem?_eq_getElem h2)
          show ((t k).2.1, (xs.getD k (0, 0, [])).2.1, (xs.getD k (0, 0, [])).2.2) = xs[k]
          rw [List.getD_eq_getElem?_getD, List.getElem?_eq_getElem h2, f2]
          rfl
        · intro e m
          obtain ⟨k, mk, rfl⟩ := List.mem_map.mp m
          have hk := List.mem_range.mp mk
          obtain ⟨_, _, _, f4⟩ := q3 k _ hk (List.getElem?_eq_getElem hk)
          show RowD (xs.getD k (0, 0, [])).2.2 (t k).2.2.2
          rw [List.getD_eq_getElem?_getD, List.getElem?_eq_getElem hk]
          exact f4
end
section
open Evl
theorem ClsAt.at_upd {C : Addr} {H : Hp} {d : Addr} {o u : HO} {cs : List (Addr × List Str)} (h : ClsAt C H cs) (hd : H d = some o) (n1 : ∀ a b c, o ≠ .ins a b c) (n2 : ∀ a, o ≠ .tup a) : ClsAt C (upd H d u) cs := fun c m => by
  obtain ⟨⟨dx, p, h1, h2⟩, ok⟩ := h c m
  refine ⟨⟨dx, p, ?_, ?_⟩, ok⟩
  · rw [upd_ne fun e => ?_]
    · exact h1
    · rw [e, hd] at h1
      exact n1 _ _ _ (Option.some.inj h1)
  · rw [upd_ne fun e => ?_]
    · exact h2
    · rw [e, hd] at h2
      exact n2 _ (Option.some.inj h2)
def spCIn (C : Addr) : Sp := fun vs H Q _ => ∃ (a : Addr) (D : List Str) (z : Str), vs = [.ref a, .str z] ∧ ClAt C H a D ∧ ∀ H', Ex H H' → Q (.bl (decide (z ∈ D))) H'
theorem ok_Clause_contains (T : Txt P K mg) : FnOk P w K mg base CX0 1 T.f_Clause_contains T.d_Clause_contains ["self", "x"] (spCIn T.C_Clause) := by
  refine T.F_Clause_contains.ok sc_Clause_contains (fun vs H Q E h => ?_) (fun cdv A outer s H vs Q E hr h => ?_)
  · obtain ⟨a, D, z, rfl, _⟩ := h
    rfl
  · obtain ⟨a, D, z, rfl, ⟨dx, p, ha, hp⟩, q⟩ := h
    refine ⟨_, (pss_one (ps_ret (pe_cmpR op_in_seq (pv 1) (pe_fld (pv 0) rfl) (by rfl)))), ?_⟩
    exact s_ret (ev_inStrT (ev_var rfl) (ev_lts T (ev_var rfl) ha) hp) fun H1 e1 => q H1 e1
/-- iter(clause), iter(book) with its dict locked: the iterator stands at n or above -/
def spCItn (C : Addr) (n : Nat) : Sp := fun vs H Q _ => ∃ (a dx p : Addr) (D : List Str), vs = [.ref a] ∧ H a = some (.ins C dx [("literals", .ref p)]) ∧ H p = some (.tup (D.map V.str)) ∧ ∀ it, H it = none → n ≤ it → Q (.ref it) (upd H it (TItO p it 0))
theorem okS_Clause_iter (T : Txt P K mg) : FnS P w K mg base CX0 1 T.f_Clause_iter T.d_Clause_iter ["self"] (spCItn T.C_Clause) := by
  refine FnS.of T.F_Clause_iter sc_Clause_iter (fun n vs H Q E h => ?_) (fun cdv A outer s H vs Q E hr h => ?_)
  · obtain ⟨a, dx, p, D, rfl, _⟩ := h
    rfl
  · obtain ⟨a, dx, p, D, rfl, ha, hp, q⟩ := h
    refine ⟨_, (pss_one (ps_ret (pe_callB call_iterTn (by rfl) T.n_iter (by decide +kernel) (pa_cons (pe_fld (pv 0) rfl) pa_nil)))), ?_⟩
    exact ⟨_, rfl, a, T.C_Clause, dx, _, .ref p, rfl, ha, T.cl_Clause, T.na_Clause_literals, rfl, p, _, rfl, st_of hp, q⟩
def spBItn (CB : Addr) (n : Nat) : Sp := fun vs H Q _ => ∃ (b dx d : Addr) (last : Int) (o : Obj) (kvs : List (Key × V)), vs = [.ref b] ∧ H b = some (.ins CB dx [("_placed", .ref d), ("_last", .int last)]) ∧ H d = some (.frz o (.dK kvs)) ∧
  ∀ it es ep, o.data = .dict es ep → H it = none → n ≤ it → Q (.ref it) (upd H it (KItO d it 0 kvs.length ep))
theorem okS_Book_iter (T : Txt P K mg) : FnS P w K mg base CX0 1 T.f_Book_iter T.d_Book_iter ["self"] (spBItn T.C_Book) := by
  refine FnS.of T.F_Book_iter sc_Book_iter (fun n vs H Q E h => ?_) (fun cdv A outer s H vs Q E hr h => ?_)
  · obtain ⟨b, dx, d, last, o, kvs, rfl, _⟩ := h
    rfl
  · obtain ⟨b, dx, d, last, o, kvs, rfl, hb, hd, q⟩ := h
    refine ⟨_, (pss_one (ps_ret (pe_callB call_iterDn (by rfl) T.n_iter (by decide +kernel) (pa_cons (pe_fld (pv 0) rfl) pa_nil)))), ?_⟩
    exact ⟨_, rfl, b, T.C_Book, dx, _, .ref d, rfl, hb, T.cl_Book, T.na_Book__placed, rfl, d, o, kvs, rfl, hd, q⟩
/-- the needs of one clause, of all -/
def needs1 (n : Int) (D : List Str) (z : Str) : List (Int × Str) := (D.filter fun y => decide (y ≠ z)).map fun y => (n, flip y)
def needsOf (es : List Rc) (z : Str) : List (Int × Str) := es.flatMap fun e => if z ∈ e.D then needs1 e.n e.D z else []
theorem needs_len {z : Str} : ∀ {es : List Rc}, (∀ e ∈ es, e.D.length ≤ 12) → (needsOf es z).length ≤ 12 * es.length
  | [], _ => by simp [needsOf]
  | e :: r, h => by
    have h1 := h e List.mem_cons_self
    have h2 := needs_len (z := z) (es := r) fun x m => h x (List.mem_cons_of_mem _ m)
    have h3 : needsOf (e :: r) z = (if z ∈ e.D then needs1 e.n e.D z else []) ++ needsOf r z := by
      unfold needsOf
      rw [List.flatMap_cons]
    rw [h3, List.length_append, List.length_cons]
    have h4 : (if z ∈ e.D then needs1 e.n e.D z else []).length ≤ 12 := by
      split
      · unfold needs1
        rw [List.length_map]
        have := List.length_filter_le (fun y => decide (y ≠ z)) e.D
        omega
      · simp
    omega
/-- a list of pairs that is being made -/
def Acc (H : Hp) (p : Addr) (L : List (Int × Str)) : Prop := ∃ t : Nat → Addr, H p = some (.lst ((List.range L.length).map fun k => V.ref (t k))) ∧ ∀ k x, L[k]? = some x → H (t k) = some (.tup [.int x.1, .str x.2])
theorem Acc.mono {H H' : Hp} {p : Addr} {L : List (Int × Str)} (a : Acc H p L) (e : Ex H H') : Acc H' p L := let ⟨t, h1, h2⟩ := a; ⟨t, e _ _ h1, fun k x hk => e _ _ (h2 k x hk)⟩
theorem Acc.push {H : Hp} {p u : Addr} {L : List (Int × Str)} {x : Int × Str} (a : Acc H p L) (nu : H u = none) : ∃ xs, (upd H u (.tup [.int x.1, .str x.2])) p = some (.lst xs) ∧ xs.length = L.length ∧ Acc (upd (upd H u (.tup [.int x.1, .str x.2])) p (.lst (xs ++ [.ref u]))) p (L ++ [x]) := by
  obtain ⟨t, h1, h2⟩ := a
  have up : u ≠ p := fun e => by rw [e, h1] at nu; cases nu
  refine ⟨_, by rw [upd_ne (Ne.symm up)]; exact h1, by rw [List.length_map, List.length_range], fun k => if k = L.length then u else t k, ?_, fun k y hk => ?_⟩
  · rw [upd_same, List.length_append, List.length_singleton, List.range_succ, List.map_append, List.map_cons, List.map_nil]
    dsimp only
    rw [if_pos rfl]
    congr 3
    exact (List.map_congr_left fun k hk => by rw [if_neg (by have := List.mem_range.mp hk; omega)]).symm
  · dsimp only
    by_cases c : k = L.length
    · subst c
      rw [List.getElem?_append_right (Nat.le_refl _), Nat.sub_self] at hk
      cases hk
      rw [if_pos rfl, upd_ne up, upd_same]
    · have lk : k < L.length := by
        have z := (List.getElem?_eq_some_iff.mp hk).1
        rw [List.length_append, List.length_singleton] at z
        omega
      rw [List.getElem?_append_left lk] at hk
      have z := h2 k y hk
      have n1 : t k ≠ p := fun e => by rw [e, h1] at z; cases z
      rw [if_neg c, upd_ne n1, upd_ne (ne_of_none z nu)]
      exact z
/-- needs(book, literal) -/
def spNeeds (C CB CL : Addr) : Sp := fun vs H Q E => ∃ (b dx d : Addr) (es : List Rc) (last : Int) (z : Str), vs = [.ref b, .str z] ∧ BkAt C CB H b dx d (es.map Rc.ent) last ∧ EsOk es last ∧ z.cps.size ≤ 50 ∧ (∀ c ∈ z.cps.toList, c < 128) ∧
  (isLit z = true → ∀ H' p, Ex H H' → H p = none → Acc H' p (needsOf es z) → Q (.ref p) H') ∧ (isLit z = false → ∀ H' x, Ex H H' → H' x = some (.xd [("text", .str z)]) → E (.ref CL) (some x) H')
theorem ok_needs (T : Txt P K mg) : FnOk P w K mg base (L2N.CX P w) 12 T.f_needs T.d_needs ["book", "literal"] (spNeeds T.C_Clause T.C_Book T.C_BadLiteral) := by
  refine T.F_needs.okN sc_needs (fun vs H Q E h => ?_) (fun cdv A outer s H vs Q E hr h => ?_)
  · obtain ⟨b, dx, d, es, last, z, rfl, _⟩ := h
    rfl
  · obtain ⟨b, dx, d, es, last, z, rfl, B, o, z50, asc, yes, no⟩ := h
    refine ⟨_, (pss_cons (ps_expr (pe_call (ok_check_literal T) (hr.mono (by decide)) rfl T.g_check_literal T.F_check_literal.kp T.b_check_literal .nil (L2N.passes_call (L2N.takes_of rfl rfl rfl rfl) (fun _ _ _ _ h => h)) (pa_cons (pv 1) pa_nil)))
      (pss_one (ps_ret (pe_lock (pe_lc2 (own := [("number", 2), ("other", 3)]) (vs1 := [3]) (wi1 := iOwnT K T.C_Clause (spCItn T.C_Clause) (tSubO T.C_Book (spBGet T.C_Book T.C_NoClause) E0 (tVar 0) (tVar 2))) (g := gName 2) (g1 := gName 3) (tt := tTest (tOp (rInO T.C_Clause false (spCIn T.C_Clause) E0) (tVar 1) (tSubO T.C_Book (spBGet T.C_Book T.C_NoClause) E0 (tVar 0) (tVar 2)))) (te := tTup (tCons (tVar 2) (tCons (tCall (spLit T.C_BadLiteral fun z => .str (flip z)) [] E0 (tCons (tVar 3) tNil)) tNil)))
        (by rfl) sc_needs.nd (pi_ownK (by exact (pv 0)) T.m_Book_iter T.i_Book_iter (okS_Book_iter T) T.b_Book_iter (hr.mono (by decide))) (blkOk_by (own := [("number", 2), ("other", 3)]) (N := N_needs) (sc := defScope s_needs) (by decide +kernel)) (by decide)
        (fun _ _ _ _ _ => pg_name (i := 2) sc_needs.nd rfl (Or.inl rfl)) (fun _ _ _ _ _ => pts_one (pt_cmpR (op_inO T.m_Clause_contains T.i_Clause_contains (ok_Clause_contains T) (hr.mono (by decide)) T.b_Clause_contains pass0) (pv 1) (pe_subO (getB T) (ok_Book_getitem T) (hr.mono (by decide)) T.b_Book_getitem passN0 (pv 0) (pv 2)) (by rfl))) (fun _ _ _ _ _ => pi_ownT (pe_subO (getB T) (ok_Book_getitem T) (hr.mono (by decide)) T.b_Book_getitem passN0 (pv 0) (pv 2)) T.m_Clause_iter T.i_Clause_iter (okS_Clause_iter T) T.b_Clause_iter (hr.mono (by decide)))
        (fun _ _ _ _ _ => pg_name (i := 3) sc_needs.nd rfl (Or.inl rfl)) (fun _ _ _ _ _ => pts_one (pt_cmpR op_ne (pv 3) (pv 1) (nomark _))) (fun _ _ _ _ _ => (pe_tup (pa_cons (pv 2) (pa_cons (pe_call (ok_negated T) (hr.mono (by decide)) rfl T.g_negated T.F_negated.kp T.b_negated .nil passN0 (pa_cons (pv 3) pa_nil)) pa_nil))))))))), ?_⟩

    refine ⟨.str z, rfl, ?_⟩
    refine ⟨z, rfl, z50, asc, fun lz H1 e1 => ?_, fun nl H1 x e1 hx => no nl H1 x e1 hx⟩
    have B := B.mono e1
    refine ⟨d, _, B.di, True.intro, fun od => ?_⟩
    have bd : b ≠ d := fun e => by
      have h1 := B.at_
      rw [e, B.di] at h1
      cases h1
    have hb2 : (upd H1 d (.frz od (.dK (dkv (es.map Rc.ent))))) b = some (.ins T.C_Book dx (bkF d last)) := by rw [upd_ne bd]; exact B.at_
    have cls2 : ClsAt T.C_Clause (upd H1 d (.frz od (.dK (dkv (es.map Rc.ent))))) ((es.map Rc.ent).map (·.2)) := B.cls.at_upd B.di (by simp) (by simp)
    refine ⟨.ref b, rfl, b, dx, _, d, od, _, rfl, hb2, upd_same, fun n => ⟨b, dx, d, last, od, _, rfl, hb2, upd_same, fun it es_ ep hdat nit low => ⟨it, es_, ep, rfl, hdat, nit, low, upd_same, ?_⟩⟩⟩
    rw [offI_new nit]
    have unlock : ∀ {H' : Hp}, Ex (upd H1 d (.frz od (.dK (dkv (es.map Rc.ent))))) H' → Ex H (upd H' d (.dK (dkv (es.map Rc.ent)))) := fun {H'} e c o' h => by
      have h := e1 _ _ h
      by_cases c1 : c = d
      · subst c1
        rw [B.di] at h
        rw [upd_same]
        exact h
      · rw [upd_ne c1]
        exact e _ _ (by rw [upd_ne c1]; exact h)
    have di := B.di
    have hd0 : H1 d ≠ none := by rw [di]; simp
    generalize hHf : upd H1 d (.frz od (.dK (dkv (es.map Rc.ent)))) = Hf at hb2 cls2 unlock ⊢
    have hdf : Hf d = some (.frz od (.dK (dkv (es.map Rc.ent)))) := by rw [← hHf]; exact upd_same
    have nHf : ∀ {D : Addr}, Hf D = none → H D = none ∧ D ≠ d := fun {D} n => by
      have nd : D ≠ d := fun e => by rw [e, hdf] at n; cases n
      rw [← hHf, upd_ne nd] at n
      exact ⟨fresh_back e1 n, nd⟩
    have ldk : (dkv (es.map Rc.ent)).length = es.length := by rw [dkv_len, List.length_map]
    have l24 := o.few
    -- book[number]
    have getC : ∀ {σ : L2.St} {H0 : Hp} {i : Nat} (li : i < es.length), σ[0]? = some (some (V.ref b)) → σ[2]? = some (some (.int es[i].n)) → Ex Hf H0 → Ev (tSubO T.C_Book (spBGet T.C_Book T.C_NoClause) E0 (tVar 0) (tVar 2)) σ H0 (.ref es[i].a) := fun {σ H0 i} li h0 h2 e H2 e2 Q q => by
      have e := e.trans e2
      have ment : es[i].ent ∈ es.map Rc.ent := List.mem_map.mpr ⟨es[i], List.getElem_mem li, rfl⟩
      have at_ := valV_at o.keyNd ment
      refine ⟨_, h0, _, h2, b, dx, _, rfl, e _ _ hb2, b, dx, d, last, es[i].n, dkv (es.map Rc.ent), rfl, o.txt (List.getElem_mem li), e _ _ hb2, .inr ⟨od, e _ _ hdf⟩, fun v hv H9 e9 => ?_, fun no => ?_⟩
      · have z : valV (dkv (es.map Rc.ent)) (.inl es[i].n) = some (.ref es[i].a) := at_
        rw [z] at hv
        obtain rfl := Option.some.inj hv
        exact q H9 e9
      · have z : valV (dkv (es.map Rc.ent)) (.inl es[i].n) = some (.ref es[i].a) := at_
        rw [no] at z
        cases z
    intro D nD
    have nDf := nHf nD
    refine ⟨fun i m H' => m = es.length - i ∧ i ≤ es.length ∧ Ex Hf H' ∧ Acc H' D (needsOf (es.take i) z), ⟨_, rfl, Nat.zero_le _, Ex.new nD, fun _ => 0, upd_same, fun k x hk => by cases hk⟩, ?_⟩
    rintro i m H2 ⟨rfl, hi, e2, acc⟩
    by_cases lt : i < es.length
    · refine .inr ⟨⟨e2 _ _ hdf, by rw [ldk]; exact lt⟩, fun H' => Ex Hf H' ∧ Acc H' D (needsOf (es.take (i + 1)) z), fun H' w => ⟨es.length - (i + 1), by omega, rfl, lt, w.1, w.2⟩, fun x H3 w => ?_⟩
      obtain ⟨rfl, kk, vv, hkv, rfl⟩ := w
      have hki : (dkv (es.map Rc.ent))[i]? = some (.inl es[i].n, V.ref es[i].a) := by
        unfold dkv
        rw [List.getElem?_map, List.getElem?_map, List.getElem?_eq_getElem lt]
        rfl
      rw [hki] at hkv
      obtain ⟨rfl, rfl⟩ := Prod.mk.inj (Option.some.inj hkv)
      have tk : es.take (i + 1) = es.take i ++ [es[i]] := by rw [List.take_add_one, List.getElem?_eq_getElem lt]; rfl
      have nx : needsOf (es.take (i + 1)) z = needsOf (es.take i) z ++ (if z ∈ es[i].D then needs1 es[i].n es[i].D z else []) := by
        rw [tk]
        unfold needsOf
        rw [List.flatMap_append, List.flatMap_cons, List.flatMap_nil, List.append_nil]
      obtain ⟨⟨dy, pl, c1, c2⟩, lok⟩ := cls2 (es[i].a, es[i].D) (List.mem_map.mpr ⟨es[i].ent, List.mem_map.mpr ⟨es[i], List.getElem_mem lt, rfl⟩, rfl⟩)
      have c1 : Hf es[i].a = some (.ins T.C_Clause dy [("literals", .ref pl)]) := c1
      have c2 : Hf pl = some (.tup (es[i].D.map V.str)) := c2
      have lok : LitsOk es[i].D := lok
      refine ⟨rfl, ?_⟩
      refine (et_test (b := decide (z ∈ es[i].D)) (ev_op (ev_var rfl) (getC lt rfl rfl e2) (fun H4 e4 Q q => ⟨es[i].a, dy, _, rfl, (e2.trans e4) _ _ c1, es[i].a, es[i].D, z, rfl, ⟨dy, pl, (e2.trans e4) _ _ c1, (e2.trans e4) _ _ c2⟩, fun H5 e5 => ⟨_, rfl, q H5 e5⟩⟩))) H3 (Ex.refl H3) _ fun H4 e4 => ?_
      have e24 := e2.trans e4
      have acc4 := acc.mono e4
      refine ite2 (fun cz => ?_) (fun cz => ⟨e24, by rw [nx, if_neg (fun m => cz (decide_eq_true m)), List.append_nil]; exact acc4⟩)
      have mz : z ∈ es[i].D := of_decide_eq_true cz
      rw [if_pos mz] at nx
      refine (getC lt rfl rfl e24) H4 (Ex.refl H4) _ fun H5 e5 => ?_
      have e25 := e24.trans e5
      refine ⟨es[i].a, dy, _, rfl, e25 _ _ c1, fun n => ⟨es[i].a, dy, pl, es[i].D, rfl, e25 _ _ c1, e25 _ _ c2, fun it nit low => ⟨it, pl, rfl, nit, low, upd_same, ?_⟩⟩⟩
      rw [offI_new nit]
      have lD : es[i].D.length ≤ 12 := lok.1
      refine ⟨fun j k H' => k = es[i].D.length - j ∧ j ≤ es[i].D.length ∧ Ex Hf H' ∧ Acc H' D (needsOf (es.take i) z ++ needs1 es[i].n (es[i].D.take j) z), ⟨_, rfl, Nat.zero_le _, e25, by
        rw [List.take_zero]
        show Acc H5 D (needsOf (es.take i) z ++ [])
        rw [List.append_nil]
        exact acc4.mono e5⟩, ?_⟩
      rintro j k H6 ⟨rfl, hj, e6, acc6⟩
      have hp6 := e6 _ _ c2
      by_cases lj : j < es[i].D.length
      · have tj : es[i].D.take (j + 1) = es[i].D.take j ++ [es[i].D[j]] := by rw [List.take_add_one, List.getElem?_eq_getElem lj]; rfl
        have n1 : needs1 es[i].n (es[i].D.take (j + 1)) z = needs1 es[i].n (es[i].D.take j) z ++ (if es[i].D[j] ≠ z then [(es[i].n, flip es[i].D[j])] else []) := by
          rw [tj]
          unfold needs1
          rw [List.filter_append, List.map_append]
          congr 1
          by_cases c : es[i].D[j] = z
          · rw [if_neg (by simp [c]), List.filter_cons_of_neg (by simp [c])]
            rfl
          · rw [if_pos c, List.filter_cons_of_pos (by simp [c])]
            rfl
        refine .inr ⟨⟨es[i].D.map V.str, V.str es[i].D[j], st_of hp6, by rw [List.getElem?_map, List.getElem?_eq_getElem lj]; rfl⟩, fun H' => j + 1 ≤ es[i].D.length ∧ Ex Hf H' ∧ Acc H' D (needsOf (es.take i) z ++ needs1 es[i].n (es[i].D.take (j + 1)) z), fun H' w => ⟨es[i].D.length - (j + 1), by omega, rfl, w⟩, fun x H7 w => ?_⟩
        obtain ⟨rfl, w⟩ := w
        have hx := w _ (st_of hp6)
        rw [List.getElem?_map, List.getElem?_eq_getElem lj] at hx
        obtain rfl : V.str es[i].D[j] = x := Option.some.inj hx
        refine ⟨rfl, ?_⟩
        refine (et_test (ev_op (ev_var rfl) (ev_var rfl) (rv_ne rfl))) H7 (Ex.refl H7) _ fun H8 e8 => ?_
        have e28 := e6.trans e8
        have acc8 := acc6.mono e8
        refine ite2 (fun cn => ?_) (fun cn => ?_)
        · have ne : es[i].D[j] ≠ z := fun e => by
            rw [e, decide_eq_true rfl] at cn
            cases cn
          obtain ⟨ly, ty, ay⟩ := lok.2 _ (List.getElem_mem lj)
          refine ⟨_, rfl, _, rfl, es[i].D[j], rfl, Nat.le_trans ty (by decide), ay, fun _ H9 e9 => ⟨(by show 2 ≤ sizeLine; decide), fun u nu => ?_⟩, fun nl => absurd (ly.symm.trans nl) (by simp)⟩
          obtain ⟨xs, g1, g2, g3⟩ := (acc8.mono e9).push (x := (es[i].n, flip es[i].D[j])) nu
          refine ⟨xs, g1, ?_, lj, ((e28.trans e9).trans (Ex.new nu)).mut nD, by rw [n1, if_pos ne, ← List.append_assoc]; exact g3⟩
          rw [g2, List.length_append]
          have b1 := needs_len (z := z) (es := es.take i) fun e m => (o.row e (List.mem_of_mem_take m)).litsOk.1
          have b2 : (needs1 es[i].n (es[i].D.take j) z).length ≤ 12 := by
            unfold needs1
            rw [List.length_map]
            have h1 := List.length_filter_le (fun y => decide (y ≠ z)) (es[i].D.take j)
            have h2 := List.length_take_le j es[i].D
            omega
          have h3 := List.length_take_le i es
          exact sz_lt (by omega)
        · have eq : es[i].D[j] = z := by
            by_cases c : es[i].D[j] = z
            · exact c
            · exact absurd (by rw [decide_eq_false (fun h => c (V.str.inj h))]; rfl) cn
          exact ⟨lj, e28, by rw [n1, if_neg (fun h => h eq), List.append_nil]; exact acc8⟩
      · have ej : j = es[i].D.length := by omega
        rw [ej, List.take_length] at acc6
        exact .inl ⟨⟨_, st_of hp6, by rw [List.length_map]; omega⟩, e6, by rw [nx]; exact acc6⟩
    · have ei : i = es.length := by omega
      rw [ei, List.take_length] at acc
      have hd2 := e2 _ _ hdf
      refine .inl ⟨⟨hd2, by rw [ldk]; omega⟩, hd2, yes lz _ D (unlock e2) nDf.1 ?_⟩
      obtain ⟨t, h1, h2⟩ := acc
      exact ⟨t, by rw [upd_ne nDf.2]; exact h1, fun k x hk => by rw [upd_ne (fun e => by have w := h2 k x hk; rw [e, hd2] at w; cases w)]; exact h2 k x hk⟩
end
section
open Evl
theorem sg_name_txt {sg nm : Str} (hs : sg = "" ∨ sg = "-") (hn : isName nm = true) : sg.length + nm.length ≤ sizeLine := by
  have h1 := (name_txt hn).1
  have h2 : sg.length ≤ 1 := by rcases hs with rfl | rfl <;> decide
  have h3 : nm.length = nm.cps.size := rfl
  rw [sizeLine_eq]
  omega
theorem needs_len6 {z : Str} : ∀ {es : List Rc}, (∀ e ∈ es, e.D.length ≤ 6) → (needsOf es z).length ≤ 6 * es.length
  | [], _ => by simp [needsOf]
  | e :: r, h => by
    have h1 := h e List.mem_cons_self
    have h2 := needs_len6 (z := z) (es := r) fun x m => h x (List.mem_cons_of_mem _ m)
    have h3 : needsOf (e :: r) z = (if z ∈ e.D then needs1 e.n e.D z else []) ++ needsOf r z := by
      unfold needsOf
      rw [List.flatMap_cons]
    rw [h3, List.length_append, List.length_cons]
    have h4 : (if z ∈ e.D then needs1 e.n e.D z else []).length ≤ 6 := by
      split
      · unfold needs1
        rw [List.length_map]
        have := List.length_filter_le (fun y => decide (y ≠ z)) e.D
        omega
      · simp
    omega
end
section
open Evl
theorem ev_catS {σ : L2.St} {H : Hp} {ta tb : TE} {x y : Str} (ha : Ev ta σ H (.str x)) (hb : Ev tb σ H (.str y)) (h : x.length + y.length ≤ sizeLine) : Ev (tOp (fun x y H Q => ∃ i j, x = V.str i ∧ y = V.str j ∧ i.length + j.length ≤ sizeLine ∧ Q (V.str (i ++ j)) H) ta tb) σ H (.str (x ++ y)) := ev_op ha hb (fun H1 _ Q q => ⟨_, _, rfl, rfl, h, q H1 (Ex.refl H1)⟩)
end
section
open Evl
/-! ### links and chains: the mathematics -/
theorem flip_flip {z : Str} (h : isLit z = true) : flip (flip z) = z := by
  have nb : isName (bare z) = true := h
  cases d : dash z with
  | false =>
    rw [flip_no d]
    have hd : dash ("-" ++ z) = true := by unfold dash; rw [minus_codes]; rfl
    rw [flip_dash hd, bare_minus]
  | true =>
    rw [flip_dash d, flip_no (name_dash nb)]
    rcases lit_form (z := z) with e | e
    · rw [e, name_dash nb] at d; cases d
    · exact e.symm
abbrev Lk := Str × Int × Str
def lkV (x : Lk) : List V := [.str x.1, .int x.2.1, .str x.2.2]
def linkS (es : List Rc) (x : Lk) : Bool := decide (∃ e ∈ es, e.n = x.2.1 ∧ x.1 ∈ e.R ∧ flip x.2.2 ∈ e.R ∧ x.1 ≠ flip x.2.2)
def chainS (es : List Rc) (g : Str) : Str → List Lk → Bool
  | s, [] => decide (s = g)
  | s, x :: r => decide (x.1 = s) && (decide ((x.2.1, x.2.2) ∈ needsOf es s) && chainS es g x.2.2 r)
def chainL (es : List Rc) (g : Str) : Str → List Lk → Bool
  | s, [] => decide (s = g)
  | s, x :: r => linkS es x && (decide (x.1 = s) && chainL es g x.2.2 r)
theorem mem_needs {es : List Rc} {n : Int} {c z : Str} : (n, c) ∈ needsOf es z ↔ ∃ e ∈ es, e.n = n ∧ z ∈ e.D ∧ ∃ y ∈ e.D, y ≠ z ∧ c = flip y := by
  unfold needsOf
  rw [List.mem_flatMap]
  constructor
  · rintro ⟨e, m, h⟩
    by_cases hz : z ∈ e.D
    · rw [if_pos hz] at h
      unfold needs1 at h
      obtain ⟨y, hy, eq⟩ := List.mem_map.mp h
      obtain ⟨e1, e2⟩ := Prod.mk.inj eq
      obtain ⟨m1, m2⟩ := List.mem_filter.mp hy
      exact ⟨e, m, e1, hz, y, m1, of_decide_eq_true m2, e2.symm⟩
    · rw [if_neg hz] at h; cases h
  · rintro ⟨e, m, e1, hz, y, hy, ne, rfl⟩
    refine ⟨e, m, ?_⟩
    rw [if_pos hz]
    unfold needs1
    exact List.mem_map.mpr ⟨y, List.mem_filter.mpr ⟨hy, decide_eq_true ne⟩, by rw [e1]⟩
section
variable {es : List Rc}
theorem rowLit (rows : ∀ e ∈ es, RowD e.R e.D) {e : Rc} (m : e ∈ es) {z : Str} (h : z ∈ e.R) : isLit z = true := ((rows e m).litsOk.2 z ((rowD (rows e m) z).mpr h)).1
theorem need_lit (rows : ∀ e ∈ es, RowD e.R e.D) {n : Int} {c z : Str} (h : (n, c) ∈ needsOf es z) : isLit c = true := by
  obtain ⟨e, m, _, _, y, hy, _, rfl⟩ := mem_needs.mp h
  exact flip_lit (rowLit rows m ((rowD (rows e m) y).mp hy))
theorem link_need (rows : ∀ e ∈ es, RowD e.R e.D) (x : Lk) : ((x.2.1, x.2.2) ∈ needsOf es x.1) ↔ (linkS es x = true ∧ isLit x.2.2 = true) := by
  constructor
  · intro h
    refine ⟨?_, need_lit rows h⟩
    obtain ⟨e, m, e1, hz, y, hy, ne, ec⟩ := mem_needs.mp h
    have hyR := (rowD (rows e m) y).mp hy
    have ff : flip x.2.2 = y := by rw [ec, flip_flip (rowLit rows m hyR)]
    refine decide_eq_true ⟨e, m, e1, (rowD (rows e m) _).mp hz, ?_, ?_⟩
    · rw [ff]; exact hyR
    · rw [ff]; exact ne.symm
  · rintro ⟨h, lc⟩
    obtain ⟨e, m, e1, h1, h2, ne⟩ := of_decide_eq_true h
    exact mem_needs.mpr ⟨e, m, e1, (rowD (rows e m) _).mpr h1, flip x.2.2, (rowD (rows e m) _).mpr h2, ne.symm, (flip_flip lc).symm⟩
theorem chain_bad (rows : ∀ e ∈ es, RowD e.R e.D) {g s : Str} (gl : isLit g = true) (sl : isLit s = false) : ∀ L, chainL es g s L = false
  | [] => decide_eq_false fun e => by rw [e, gl] at sl; cases sl
  | x :: r => by
    show (linkS es x && (decide (x.1 = s) && chainL es g x.2.2 r)) = false
    by_cases h : linkS es x = true
    · have ns : x.1 ≠ s := fun e => by
        obtain ⟨e0, m, _, h1, _⟩ := of_decide_eq_true h
        rw [e] at h1
        have := rowLit rows m h1
        rw [this] at sl; cases sl
      rw [decide_eq_false ns, Bool.false_and, Bool.and_false]
    · rw [Bool.eq_false_iff.mpr h, Bool.false_and]
theorem chain_eq (rows : ∀ e ∈ es, RowD e.R e.D) {g : Str} (gl : isLit g = true) : ∀ (L : List Lk) (s : Str), isLit s = true → chainS es g s L = chainL es g s L
  | [], _, _ => rfl
  | x :: r, s, sl => by
    show (decide (x.1 = s) && (decide ((x.2.1, x.2.2) ∈ needsOf es s) && chainS es g x.2.2 r)) = (linkS es x && (decide (x.1 = s) && chainL es g x.2.2 r))
    by_cases e : x.1 = s
    · subst e
      rw [decide_eq_true rfl, Bool.true_and, Bool.true_and]
      by_cases h : (x.2.1, x.2.2) ∈ needsOf es x.1
      · obtain ⟨h1, h2⟩ := (link_need rows x).mp h
        rw [decide_eq_true h, h1, Bool.true_and, Bool.true_and, chain_eq rows gl r _ h2]
      · rw [decide_eq_false h, Bool.false_and]
        by_cases h1 : linkS es x = true
        · have nl : isLit x.2.2 = false := by
            cases c : isLit x.2.2 with
            | false => rfl
            | true => exact absurd ((link_need rows x).mpr ⟨h1, c⟩) h
          rw [chain_bad rows gl nl r, Bool.and_false]
        · rw [Bool.eq_false_iff.mpr h1, Bool.false_and]
    · rw [decide_eq_false e, Bool.false_and, Bool.false_and, Bool.and_false]
end
/-- links at their tuples -/
abbrev PLk := Addr × Lk
def LksAt (H : Hp) (ps : List PLk) : Prop := ∀ x ∈ ps, H x.1 = some (.tup (lkV x.2))
theorem LksAt.mono {H H' : Hp} {ps : List PLk} (h : LksAt H ps) (e : Ex H H') : LksAt H' ps := fun x m => e _ _ (h x m)
def lkRefs (ps : List PLk) : List V := ps.map fun x => V.ref x.1
def lks (ps : List PLk) : List Lk := ps.map (·.2)
theorem acc_data {H : Hp} {p : Addr} {L : List (Int × Str)} (a : Acc H p L) : Dp K H (.ref p) (.list (L.map nsD)) := by
  obtain ⟨t, h1, h2⟩ := a
  refine .lst (sq_of h1) ?_
  have gen : ∀ (L' : List (Int × Str)) (k : Nat), (∀ i x, L'[i]? = some x → H (t (k + i)) = some (.tup [.int x.1, .str x.2])) → DpAll K H ((List.range' k L'.length).map fun k => V.ref (t k)) (L'.map nsD) := by
    intro L'
    induction L' with
    | nil => intro k _; exact .nil
    | cons x r ih =>
      intro k h
      rw [List.length_cons, List.range'_succ, List.map_cons, List.map_cons]
      refine .cons ?_ (ih (k + 1) fun i y hy => ?_)
      · exact .tup (st_of (h 0 x rfl)) (.cons (.int _) (.cons (.str _) .nil))
      · have z := h (i + 1) y hy
        rw [show k + 1 + i = k + (i + 1) by omega]
        exact z
  rw [List.range_eq_range']
  exact gen L 0 fun i x hx => by rw [Nat.zero_add]; exact h2 i x hx
theorem needs_asc {es : List Rc} (rows : ∀ e ∈ es, RowD e.R e.D) {z : Str} : ∀ y ∈ needsOf es z, ∀ c ∈ y.2.cps.toList, c < 128 := fun y hy => by
  have h : (y.1, y.2) ∈ needsOf es z := hy
  exact (lit_txt (need_lit rows h)).2
end
section
open Evl
/-- is_chain(book, start, goal, links) -/
def spChain (K : PySem.W.Frag) (C CB CL : Addr) : Sp := fun vs H Q E => ∃ (b dx d p : Addr) (es : List Rc) (last : Int) (s g : Str) (ps : List PLk), vs = [.ref b, .str s, .str g, .ref p] ∧ BkAt C CB H b dx d (es.map Rc.ent) last ∧ EsOk es last ∧ Sq2 K H p (lkRefs ps) ∧ LksAt H ps ∧ (∀ x ∈ ps, Txt8 100 x.2.2.2) ∧ Txt8 50 s ∧ Txt8 50 g ∧
  (isLit s = true → isLit g = true → ∀ H', Ex H H' → Q (.bl (chainS es g s (lks ps))) H') ∧ (isLit s = false → ∀ H' x, Ex H H' → H' x = some (.xd [("text", .str s)]) → E (.ref CL) (some x) H') ∧ (isLit s = true → isLit g = false → ∀ H' x, Ex H H' → H' x = some (.xd [("text", .str g)]) → E (.ref CL) (some x) H')
theorem ev_notNeed {C CB CL : Addr} {σ : L2.St} {H : Hp} {b dx d : Addr} {es : List Rc} {last : Int} {t c : Str} {n : Int} (B : BkAt C CB H b dx d (es.map Rc.ent) last) (o : EsOk es last) (lt : isLit t = true) (tc : Txt8 100 c) (h0 : σ[0]? = some (some (V.ref b))) (h4 : σ[4]? = some (some (V.str t))) (h6 : σ[6]? = some (some (V.int n))) (h7 : σ[7]? = some (some (V.str c))) :
    Ev (tOp (rNotInD K) (tTup (tCons (tVar 6) (tCons (tVar 7) tNil))) (tCall (spNeeds C CB CL) [] E0 (tCons (tVar 0) (tCons (tVar 4) tNil)))) σ H (.bl (!decide ((n, c) ∈ needsOf es t))) := fun H1 e1 Q q => by
  have tt := lit_txt lt
  refine ⟨_, h6, _, h7, (by show 2 ≤ sizeLine; decide), fun u nu => ?_⟩
  have e2 : Ex H1 (upd H1 u (.tup [.int n, .str c])) := Ex.new nu
  have hu : (upd H1 u (.tup [.int n, .str c])) u = some (.tup [.int n, .str c]) := upd_same
  generalize upd H1 u (.tup [.int n, .str c]) = H2 at e2 hu
  refine ⟨_, h0, _, h4, b, dx, d, es, last, t, rfl, B.mono (e1.trans e2), o, Nat.le_trans tt.1 (by decide), tt.2, fun _ H3 p e3 np acc => ?_, fun nl => absurd (lt.symm.trans nl) (by simp)⟩
  refine ⟨nsD (n, c), (needsOf es t).map nsD, .tup (st_of (e3 _ _ hu)) (.cons (.int _) (.cons (.str _) .nil)), acc_data acc, nsD_shaped tc.2, nsDs_shaped (needs_asc o.row), ?_⟩
  rw [nsD_any]
  exact q H3 (e2.trans e3)
theorem ok_is_chain (T : Txt P K mg) : FnOk P w K mg base (L2N.CX P w) 13 T.f_is_chain T.d_is_chain ["book", "start", "goal", "links"] (spChain K T.C_Clause T.C_Book T.C_BadLiteral) := by
  refine T.F_is_chain.okN sc_is_chain (fun vs H Q E h => ?_) (fun cdv A outer s H vs Q E hr h => ?_)
  · obtain ⟨b, dx, d, p, es, last, s, g, ps, rfl, _⟩ := h
    rfl
  · obtain ⟨b, dx, d, p, es, last, s, g, ps, rfl, B, o, hp, lk, tx, st, gt, yes, no1, no2⟩ := h
    refine ⟨_, (pss_cons (ps_expr (pe_call (ok_check_literal T) (hr.mono (by decide)) rfl T.g_check_literal T.F_check_literal.kp T.b_check_literal .nil (L2N.passes_call (L2N.takes_of rfl rfl rfl rfl) (fun _ _ _ _ h => h)) (pa_cons (pv 1) pa_nil)))
      (pss_cons (ps_expr (pe_call (ok_check_literal T) (hr.mono (by decide)) rfl T.g_check_literal T.F_check_literal.kp T.b_check_literal .nil (L2N.passes_call (L2N.takes_of rfl rfl rfl rfl) (fun _ _ _ _ h => h)) (pa_cons (pv 2) pa_nil)))
      (pss_cons (ps_set (i := 4) sc_is_chain.nd rfl (.inl rfl) (pv 1))
      (pss_cons (ps_for PassesOwn.leaving rfl (pi_seq (pv 3)) (pg_tup rfl (pgs_cons (pg_name (i := 5) sc_is_chain.nd rfl (.inl rfl)) (pgs_cons (pg_name (i := 6) sc_is_chain.nd rfl (.inl rfl)) (pgs_cons (pg_name (i := 7) sc_is_chain.nd rfl (.inl rfl)) pgs_nil)))) (pss_cons (ps_if (PW.pt (pw_or (pt_cmpR op_ne (pv 5) (pv 4) (nomark _)) (pw_or1 (pt_cmpR (op_notInD hr.units1) (pe_tup (pa_cons (pv 6) (pa_cons (pv 7) pa_nil))) (pe_call (ok_needs T) (hr.mono (by decide)) rfl T.g_needs T.F_needs.kp T.b_needs .nil passN0 (pa_cons (pv 0) (pa_cons (pv 4) pa_nil))) (by rfl))))) (pss_one (ps_ret pe_bl)) pss_nil)
      (pss_one (ps_set (i := 4) sc_is_chain.nd rfl (.inl rfl) (pv 7)))))
      (pss_one (ps_ret (pe_cmpR op_eq (pv 4) (pv 2) (nomark _)))))))), ?_⟩
    refine ⟨.str s, rfl, s, rfl, st.1, st.2, fun ls H1 e1 => ?_, fun nl H1 x e1 hx => no1 nl H1 x e1 hx⟩
    refine ⟨.str g, rfl, g, rfl, gt.1, gt.2, fun lg H2 e2 => ?_, fun nl H2 x e2 hx => no2 ls nl H2 x (e1.trans e2) hx⟩
    refine q_asg (ev_var rfl) fun H3 e3 => ?_
    have e03 := (e1.trans e2).trans e3
    have yes := yes ls lg
    refine q_forS (K := K) (xs := lkRefs ps) (ev_var rfl) (hp.mono e03) (fun i σ H' => ∃ (t : Str) (v5 v6 v7 : Option V), σ = [some (V.ref b), some (.str s), some (.str g), some (.ref p), some (.str t), v5, v6, v7] ∧ Ex H3 H' ∧ isLit t = true ∧ chainS es g s (lks ps) = chainS es g t (lks (ps.drop i)))
      (fun H4 e4 => ⟨s, none, none, none, rfl, e4, ls, rfl⟩) (fun i σ' H' ⟨_, _, _, _, _, e, _⟩ => e) ?_ ?_
    · rintro i x σ H4 hi ⟨t, v5, v6, v7, rfl, e4, lt, eq⟩
      have li : i < ps.length := by
        have z := (List.getElem?_eq_some_iff.mp hi).1
        unfold lkRefs at z
        rw [List.length_map] at z
        exact z
      unfold lkRefs at hi
      rw [List.getElem?_map, List.getElem?_eq_getElem li] at hi
      obtain rfl : V.ref ps[i].1 = x := Option.some.inj hi
      have e04 := e03.trans e4
      have at_ := e04 _ _ (lk _ (List.getElem_mem li))
      have cns : lks (ps.drop i) = ps[i].2 :: lks (ps.drop (i + 1)) := by
        rw [List.drop_eq_getElem_cons li]
        rfl
      rw [cns] at eq
      have eq : chainS es g s (lks ps) = (decide (ps[i].2.1 = t) && (decide ((ps[i].2.2.1, ps[i].2.2.2) ∈ needsOf es t) && chainS es g ps[i].2.2.2 (lks (ps.drop (i + 1))))) := eq
      have txi := tx _ (List.getElem_mem li)
      refine ⟨ps[i].1, _, rfl, st_of at_, rfl, ?_⟩
      refine ⟨_, _, rfl, _, _, rfl, _, _, rfl, rfl, ?_⟩
      dsimp only [gName]
      refine q_when (b := !(decide (ps[i].2.1 = t) && decide ((ps[i].2.2.1, ps[i].2.2.2) ∈ needsOf es t))) (et_is (et_or (et_test (ev_op (x := .str ps[i].2.1) (y := .str t) (ev_var rfl) (ev_var rfl) (rv_ne rfl))) (fun _ => et_test (ev_notNeed (B.mono e04) o lt txi rfl rfl rfl rfl))) ?_) ?_ ?_
      · by_cases h : ps[i].2.1 = t <;> simp [h]
      · intro hb H5 e5
        rw [← Bool.and_assoc] at eq
        have z : (decide (ps[i].2.1 = t) && decide ((ps[i].2.2.1, ps[i].2.2.2) ∈ needsOf es t)) = false := by
          cases c : (decide (ps[i].2.1 = t) && decide ((ps[i].2.2.1, ps[i].2.2.2) ∈ needsOf es t)) with
          | false => rfl
          | true => rw [c] at hb; cases hb
        rw [z, Bool.false_and] at eq
        refine s_ret ev_c fun H6 e6 => ?_
        have y := yes H6 (((e04.trans e5).trans e6))
        rw [eq] at y
        exact y
      · intro hb H5 e5
        have z : (decide (ps[i].2.1 = t) && decide ((ps[i].2.2.1, ps[i].2.2.2) ∈ needsOf es t)) = true := by
          cases c : (decide (ps[i].2.1 = t) && decide ((ps[i].2.2.1, ps[i].2.2.2) ∈ needsOf es t)) with
          | true => rfl
          | false => rw [c] at hb; cases hb
        have z2 := z
        rw [← Bool.and_assoc, z, Bool.true_and] at eq
        refine s_asg (ev_var rfl) fun H6 e6 => ⟨ps[i].2.2.2, _, _, _, rfl, (e4.trans e5).trans e6, ?_, eq⟩
        rw [Bool.and_eq_true] at z2
        exact need_lit o.row (of_decide_eq_true z2.2)
    · rintro σ H4 ⟨t, v5, v6, v7, rfl, e4, lt, eq⟩
      have dl : lks (ps.drop (lkRefs ps).length) = [] := by
        unfold lkRefs
        rw [List.length_map, List.drop_length]
        rfl
      rw [dl] at eq
      have eq : chainS es g s (lks ps) = decide (t = g) := eq
      refine s_ret (ev_is (ev_op (x := .str t) (y := .str g) (ev_var rfl) (ev_var rfl) (rv_eq rfl)) (w := .bl (chainS es g s (lks ps))) ?_) fun H5 e5 => yes H5 ((e03.trans e4).trans e5)
      rw [eq]
      congr 1
      exact decide_eq_decide.mpr ⟨fun h => V.str.inj h, fun h => by rw [h]⟩
end
section
open Evl
theorem ev_flipS {σ : L2.St} {H : Hp} {te : TE} {z : Str} {E : XK} (h : Ev te σ H (.str z)) (tz : z.cps.size ≤ 50) : Ev (tCall (spPure fun z => .str (flip z)) [] E (tCons te tNil)) σ H (.str (flip z)) :=
  ev_call (ea_cons h ea_nil) fun H6 e6 Q q E => ⟨_, rfl, tz, q⟩
theorem ev_lenU {σ : L2.St} {H : Hp} {ta : TE} {p : Addr} {xs : List V} (ha : Ev ta σ H (.ref p)) (h : H p = some (.tup xs)) : Ev (tCB (rLenS K) (tCons ta tNil)) σ H (.int (xs.length : Int)) := fun H1 e Q q =>
  ha H1 e _ fun H2 e2 => ⟨p, xs, rfl, .inr (st_of (e2 _ _ (e _ _ h))), q H2 e2⟩
theorem ev_ixU {σ : L2.St} {H : Hp} {ta : TE} {p : Addr} {xs : List V} {i : Int} {v : V} (ha : Ev ta σ H (.ref p)) (h : H p = some (.tup xs)) (hv : atI xs i = some v) : Ev (tOp (rIxT K) ta (tC (.int i))) σ H v := ev_op ha ev_c (rv_ixT (st_of h) hv)
theorem eqV_ints {a b : Int} : eqV (.int a) (.int b) = decide (a = b) := by
  show (a == b) = _
  by_cases h : a = b <;> simp [h]
theorem ev_indexI {σ : L2.St} {H : Hp} {ta te : TE} {p : Addr} {ns : List Int} {j : Nat} {n : Int} (ha : Ev ta σ H (.ref p)) (h : Ev te σ H (.int n)) (hp : H p = some (.lst (ns.map V.int))) (nd : ns.Nodup) (at_ : ns[j]? = some n) : Ev (tBM K "list" (rIndex K) ta (tCons te tNil)) σ H (.int (j : Int)) := fun H1 e1 Q q =>
  ha H1 e1 _ fun H2 e2 => ⟨Or.inl ⟨rfl, _, sq_of ((e1.trans e2) _ _ hp)⟩, h H2 (e1.trans e2) _ fun H3 e3 => ⟨p, ns.map V.int, .int n, j, .int n, rfl, rfl, sq_of (((e1.trans e2).trans e3) _ _ hp), rfl, flat_ints ns, by rw [List.getElem?_map, at_]; rfl, by rw [eqV_ints]; exact decide_eq_true rfl, fun m z' lm hm => by
    rw [List.getElem?_map] at hm
    obtain ⟨k, hk, rfl⟩ := Option.map_eq_some_iff.mp hm
    rw [eqV_ints]
    refine decide_eq_false fun e => ?_
    subst e
    obtain ⟨l1, e1⟩ := List.getElem?_eq_some_iff.mp hk
    obtain ⟨l2, e2⟩ := List.getElem?_eq_some_iff.mp at_
    have z := (List.pairwise_iff_getElem.mp nd) m j l1 l2 lm
    exact z (e1.trans e2.symm), q H3 (e2.trans e3)⟩⟩
theorem link_none {es : List Rc} {x : Lk} (h : x.2.1 ∉ es.map Rc.n) : linkS es x = false := decide_eq_false fun ⟨e, m, e1, _⟩ => h (List.mem_map.mpr ⟨e, m, e1⟩)
theorem link_at {es : List Rc} (nd : (es.map Rc.n).Nodup) {x : Lk} {j : Nat} (lj : j < es.length) (hn : es[j].n = x.2.1) : linkS es x = (decide (x.1 ∈ es[j].R) && (decide (flip x.2.2 ∈ es[j].R) && !decide (x.1 = flip x.2.2))) := by
  have u : ∀ e ∈ es, e.n = x.2.1 → e = es[j] := fun e m h => by
    obtain ⟨i, li, rfl⟩ := List.mem_iff_getElem.mp m
    by_cases c : i = j
    · subst c; rfl
    · exfalso
      have z := List.pairwise_iff_getElem.mp nd
      rcases Nat.lt_or_gt_of_ne c with l | l
      · have w := z i j (by rw [List.length_map]; exact li) (by rw [List.length_map]; exact lj) l
        rw [List.getElem_map, List.getElem_map] at w
        exact w (h.trans hn.symm)
      · have w := z j i (by rw [List.length_map]; exact lj) (by rw [List.length_map]; exact li) l
        rw [List.getElem_map, List.getElem_map] at w
        exact w (hn.trans h.symm)
  unfold linkS
  by_cases h1 : x.1 ∈ es[j].R <;> by_cases h2 : flip x.2.2 ∈ es[j].R <;> by_cases h3 : x.1 = flip x.2.2
  all_goals first
    | (rw [decide_eq_true h1, decide_eq_true h2, decide_eq_false h3]
       exact decide_eq_true ⟨_, List.getElem_mem lj, hn, h1, h2, h3⟩)
    | (rw [decide_eq_false (fun ⟨e, m, e1, a, b, c⟩ => by rw [u e m e1] at a b; first | exact h1 a | exact h2 b | exact c h3)]
       simp [h1, h2, h3])
/-- _law_is_link(numbers, rows, link) -/
def spIsLink : Sp := fun vs H Q _ => ∃ (ln lr t : Addr) (es : List Rc) (last : Int) (x : Lk), vs = [.ref ln, .ref lr, .ref t] ∧ TabAt H ln lr es ∧ EsOk es last ∧ H t = some (.tup (lkV x)) ∧ x.2.2.cps.size ≤ 50 ∧ ∀ H', Ex H H' → Q (.bl (linkS es x)) H'
theorem ok__law_is_link (T : Txt P K mg) : FnOk P w K mg base CX0 2 T.f__law_is_link T.d__law_is_link ["_law_numbers_here", "_law_rows", "_law_link"] spIsLink := by
  refine T.F__law_is_link.ok sc__law_is_link (fun vs H Q E h => ?_) (fun cdv A outer s H vs Q E hr h => ?_)
  · obtain ⟨ln, lr, t, es, last, x, rfl, _⟩ := h
    rfl
  · obtain ⟨ln, lr, t, es, last, x, rfl, tab, o, ht, sz, q⟩ := h
    refine ⟨_, (pss_cons (ps_if (PW.pt (pw_or (pt_not (pt_val (pe_callB call_isi (by rfl) T.n_isinstance (by decide +kernel) (pa_cons (pv 2) (pa_cons (pe_bltn (v := .ty "tuple") (u := .type "tuple") (by rfl) T.n_tuple (by decide +kernel) rfl) pa_nil))))) (pw_or (pt_cmpR op_ne (pe_callB call_len_seq (by rfl) T.n_len PySem.boot_len (pa_cons (pv 2) pa_nil)) pe_int (nomark _)) (pw_or1 (pt_val (pe_callB call_isi (by rfl) T.n_isinstance (by decide +kernel) (pa_cons (pe_ix ix_tup (pv 2) pe_int (fun _ _ => rfl)) (pa_cons (pe_bltn (v := .ty "bool") (u := .type "bool") (by rfl) T.n_bool (by decide +kernel) rfl) pa_nil)))))))) (pss_one (ps_ret pe_bl)) pss_nil)
      (pss_cons (ps_if (PW.pt (pw_or (pt_not (pt_val (pe_callB call_isi (by rfl) T.n_isinstance (by decide +kernel) (pa_cons (pe_ix ix_tup (pv 2) pe_int (fun _ _ => rfl)) (pa_cons (pe_bltn (v := .ty "str") (u := .type "str") (by rfl) T.n_str (by decide +kernel) rfl) pa_nil))))) (pw_or (pt_not (pt_val (pe_callB call_isi (by rfl) T.n_isinstance (by decide +kernel) (pa_cons (pe_ix ix_tup (pv 2) pe_int (fun _ _ => rfl)) (pa_cons (pe_bltn (v := .ty "str") (u := .type "str") (by rfl) T.n_str (by decide +kernel) rfl) pa_nil))))) (pw_or (pt_not (pt_val (pe_callB call_isi (by rfl) T.n_isinstance (by decide +kernel) (pa_cons (pe_ix ix_tup (pv 2) pe_int (fun _ _ => rfl)) (pa_cons (pe_bltn (v := .ty "int") (u := .type "int") (by rfl) T.n_int (by decide +kernel) rfl) pa_nil))))) (pw_or1 (pt_cmpR op_notIn_seq (pe_ix ix_tup (pv 2) pe_int (fun _ _ => rfl)) (pv 0) (by rfl))))))) (pss_one (ps_ret pe_bl)) pss_nil)
      (pss_cons (ps_set (i := 3) sc__law_is_link.nd rfl (.inl rfl) (pe_ix ix_list (pv 1) (pe_bm PySem.F.plainAttrs_list PySem.F.slot_list_index PySem.F.type_list_index mt_index (pv 0) (pa_cons (pe_ix ix_tup (pv 2) pe_int (fun _ _ => rfl)) pa_nil)) (fun _ _ => rfl)))
      (pss_one (ps_ret (pe_and (pe_cmpR op_in_seq (pe_ix ix_tup (pv 2) pe_int (fun _ _ => rfl)) (pv 3) (by rfl)) (pe_and (pe_cmpR op_in_seq (pe_call (ok__law_flip T) (hr.mono (by decide)) rfl T.g__law_flip T.F__law_flip.kp T.b__law_flip .nil pass0 (pa_cons (pe_ix ix_tup (pv 2) pe_int (fun _ _ => rfl)) pa_nil)) (pv 3) (by rfl)) (pe_one (pe_cmpR op_ne (pe_ix ix_tup (pv 2) pe_int (fun _ _ => rfl)) (pe_call (ok__law_flip T) (hr.mono (by decide)) rfl T.g__law_flip T.F__law_flip.kp T.b__law_flip .nil pass0 (pa_cons (pe_ix ix_tup (pv 2) pe_int (fun _ _ => rfl)) pa_nil)) (nomark _)))))))))), ?_⟩
    have kt : kitB "tuple" "tuple" = some true := by decide +kernel
    have at_ : ∀ {σ : L2.St} {H0 : Hp} {i : Int} {v : V}, σ[2]? = some (some (V.ref t)) → Ex H H0 → atI (lkV x) i = some v → Ev (tOp (rIxT K) (tVar 2) (tC (.int i))) σ H0 v := fun h2 e hv => ev_ixU (ev_var h2) (e _ _ ht) hv
    refine q_when (b := false) (et_is (et_or (et_not (et_B (ev_isU (ev_var rfl) ht kt))) (fun _ => et_or (et_test (ev_op (ev_lenU (ev_var rfl) ht) ev_c (rv_ne rfl))) (fun _ => et_B (ev_isi (at_ rfl (Ex.refl H) (v := .int x.2.1) rfl) (fun _ => .base (.int _)) (show kitB "int" "bool" = some false by decide +kernel))))) rfl) (fun z => by cases z) fun _ H1 e1 => ?_
    refine q_when (b := !decide (x.2.1 ∈ es.map Rc.n)) (et_is (et_or (et_not (et_B (ev_isi (at_ rfl e1 (v := .str x.1) rfl) (fun _ => .base (.str _)) (show kitB "str" "str" = some true by decide +kernel)))) (fun _ => et_or (et_not (et_B (ev_isi (at_ rfl e1 (v := .str x.2.2) rfl) (fun _ => .base (.str _)) (show kitB "str" "str" = some true by decide +kernel)))) (fun _ => et_or (et_not (et_B (ev_isi (at_ rfl e1 (v := .int x.2.1) rfl) (fun _ => .base (.int _)) (show kitB "int" "int" = some true by decide +kernel)))) (fun _ => et_test (ev_op (at_ rfl e1 (v := .int x.2.1) rfl) (ev_var rfl) (rv_niL (sq_of (e1 _ _ tab.num)) rfl (flat_ints _))))))) ?_) (fun c H2 e2 => ?_) fun c H2 e2 => ?_
    · rw [in_ints]; rfl
    · have n : x.2.1 ∉ es.map Rc.n := fun m => by rw [decide_eq_true m] at c; cases c
      exact s_ret ev_c fun H3 e3 => by
        have z := q H3 ((e1.trans e2).trans e3)
        rw [link_none n] at z
        exact z
    · have m : x.2.1 ∈ es.map Rc.n := by
        by_cases h : x.2.1 ∈ es.map Rc.n
        · exact h
        · rw [decide_eq_false h] at c; cases c
      obtain ⟨j, lj, hj⟩ := List.mem_iff_getElem.mp m
      have lj' : j < es.length := by rw [List.length_map] at lj; exact lj
      have hj' : es[j].n = x.2.1 := by rw [List.getElem_map] at hj; exact hj
      have e12 := e1.trans e2
      have hR := tab.each _ (List.getElem_mem lj')
      refine q_asg (v := .ref es[j].ra) (ev_op (ev_var rfl) (ev_indexI (ev_var rfl) (at_ rfl e12 (v := .int x.2.1) rfl) (e12 _ _ tab.num) o.nd (by rw [List.getElem?_eq_getElem lj, hj])) (rv_ixL (sq_of (e12 _ _ tab.rows)) (atI_nat (j := j) (by rw [List.getElem?_map, List.getElem?_eq_getElem lj']; rfl)))) fun H3 e3 => ?_
      have e13 := e12.trans e3
      refine s_ret (v := .bl (linkS es x)) (ev_is (ev_andV (ev_op (at_ rfl e13 (v := .str x.1) rfl) (ev_var rfl) (rv_isL (sq_of (e13 _ _ hR)) rfl (flat_str es[j].R))) (fun _ => ev_andV (ev_op (ev_flipS (at_ rfl e13 (v := .str x.2.2) rfl) sz) (ev_var rfl) (rv_isL (sq_of (e13 _ _ hR)) rfl (flat_str es[j].R))) (fun _ => ev_op (at_ rfl e13 (v := .str x.1) rfl) (ev_flipS (at_ rfl e13 (v := .str x.2.2) rfl) sz) (rv_ne rfl)))) ?_) fun H4 e4 => q H4 (e13.trans e4)
      rw [in_map, in_map, link_at o.nd lj' hj']
      have : decide (V.str x.1 = V.str (flip x.2.2)) = decide (x.1 = flip x.2.2) := decide_eq_decide.mpr ⟨fun h => V.str.inj h, fun h => by rw [h]⟩
      rw [this]
/-- _law_is_chain(numbers, rows, start, goal, links) -/
def spIsChain (K : PySem.W.Frag) : Sp := fun vs H Q _ => ∃ (ln lr p : Addr) (es : List Rc) (last : Int) (s g : Str) (ps : List PLk), vs = [.ref ln, .ref lr, .str s, .str g, .ref p] ∧ TabAt H ln lr es ∧ EsOk es last ∧ Sq2 K H p (lkRefs ps) ∧ LksAt H ps ∧ (∀ x ∈ ps, Txt8 50 x.2.2.2) ∧ ∀ H', Ex H H' → Q (.bl (chainL es g s (lks ps))) H'
theorem ok__law_is_chain (T : Txt P K mg) : FnOk P w K mg base CX0 3 T.f__law_is_chain T.d__law_is_chain ["_law_numbers_here", "_law_rows", "_law_start", "_law_goal", "_law_links"] (spIsChain K) := by
  refine T.F__law_is_chain.ok sc__law_is_chain (fun vs H Q E h => ?_) (fun cdv A outer s H vs Q E hr h => ?_)
  · obtain ⟨ln, lr, p, es, last, s, g, ps, rfl, _⟩ := h
    rfl
  · obtain ⟨ln, lr, p, es, last, s, g, ps, rfl, tab, o, hp, lk, tx, q⟩ := h
    refine ⟨_, (pss_cons (ps_set (i := 5) sc__law_is_chain.nd rfl (.inl rfl) (pv 2))
      (pss_cons (ps_for PassesOwn.never rfl (pi_seq (pv 4)) (pg_name (i := 6) sc__law_is_chain.nd rfl (.inl rfl)) (pss_cons (ps_if (PW.pt (pw_or (pt_not (pt_val (pe_call (ok__law_is_link T) (hr.mono (by decide)) rfl T.g__law_is_link T.F__law_is_link.kp T.b__law_is_link .nil pass0 (pa_cons (pv 0) (pa_cons (pv 1) (pa_cons (pv 6) pa_nil)))))) (pw_or1 (pt_cmpR op_ne (pe_ix ix_tup (pv 6) pe_int (fun _ _ => rfl)) (pv 5) (nomark _))))) (pss_one (ps_ret pe_bl)) pss_nil)
      (pss_one (ps_set (i := 5) sc__law_is_chain.nd rfl (.inl rfl) (pe_ix ix_tup (pv 6) pe_int (fun _ _ => rfl))))))
      (pss_one (ps_ret (pe_cmpR op_eq (pv 5) (pv 3) (nomark _)))))), ?_⟩
    refine q_asg (ev_var rfl) fun H1 e1 => ?_
    refine q_forS (K := K) (xs := lkRefs ps) (ev_var rfl) (hp.mono e1) (fun i σ H' => ∃ (t : Str) (v6 : Option V), σ = [some (V.ref ln), some (.ref lr), some (.str s), some (.str g), some (.ref p), some (.str t), v6] ∧ Ex H1 H' ∧ chainL es g s (lks ps) = chainL es g t (lks (ps.drop i)))
      (fun H4 e4 => ⟨s, none, rfl, e4, rfl⟩) (fun i σ' H' ⟨_, _, _, e, _⟩ => e) ?_ ?_
    · rintro i x σ H4 hi ⟨t, v6, rfl, e4', eq⟩
      have e4 := e1.trans e4'
      have li : i < ps.length := by
        have z := (List.getElem?_eq_some_iff.mp hi).1
        unfold lkRefs at z
        rw [List.length_map] at z
        exact z
      unfold lkRefs at hi
      rw [List.getElem?_map, List.getElem?_eq_getElem li] at hi
      obtain rfl : V.ref ps[i].1 = x := Option.some.inj hi
      have at_ := lk _ (List.getElem_mem li)
      have cns : lks (ps.drop i) = ps[i].2 :: lks (ps.drop (i + 1)) := by
        rw [List.drop_eq_getElem_cons li]
        rfl
      rw [cns] at eq
      have eq : chainL es g s (lks ps) = (linkS es ps[i].2 && (decide (ps[i].2.1 = t) && chainL es g ps[i].2.2.2 (lks (ps.drop (i + 1))))) := eq
      have txi := tx _ (List.getElem_mem li)
      refine q_when (b := !(linkS es ps[i].2 && decide (ps[i].2.1 = t))) (et_is (et_or (et_not (et_B (ev_call (ea_cons (ev_var rfl) (ea_cons (ev_var rfl) (ea_cons (ev_var rfl) ea_nil))) fun H5 e5 Q q E => ⟨ln, lr, ps[i].1, es, last, ps[i].2, rfl, tab.mono (e4.trans e5), o, (e4.trans e5) _ _ at_, txi.1, q⟩))) (fun _ => et_test (ev_op (x := .str ps[i].2.1) (y := .str t) (ev_ixU (ev_var rfl) (e4 _ _ at_) rfl) (ev_var rfl) (rv_ne rfl)))) ?_) ?_ ?_
      · by_cases h : ps[i].2.1 = t <;> cases linkS es ps[i].2 <;> simp [h]
      · intro hb H5 e5
        rw [← Bool.and_assoc] at eq
        have z : (linkS es ps[i].2 && decide (ps[i].2.1 = t)) = false := by
          cases c : (linkS es ps[i].2 && decide (ps[i].2.1 = t)) with
          | false => rfl
          | true => rw [c] at hb; cases hb
        rw [z, Bool.false_and] at eq
        refine s_ret ev_c fun H6 e6 => ?_
        have y := q H6 ((e4.trans e5).trans e6)
        rw [eq] at y
        exact y
      · intro hb H5 e5
        have z : (linkS es ps[i].2 && decide (ps[i].2.1 = t)) = true := by
          cases c : (linkS es ps[i].2 && decide (ps[i].2.1 = t)) with
          | true => rfl
          | false => rw [c] at hb; cases hb
        rw [← Bool.and_assoc, z, Bool.true_and] at eq
        exact s_asg (v := .str ps[i].2.2.2) (ev_ixU (ev_var rfl) ((e4.trans e5) _ _ at_) rfl) fun H6 e6 => ⟨ps[i].2.2.2, _, rfl, (e4'.trans e5).trans e6, eq⟩
    · rintro σ H4 ⟨t, v6, rfl, e4', eq⟩
      have e4 := e1.trans e4'
      have dl : lks (ps.drop (lkRefs ps).length) = [] := by
        unfold lkRefs
        rw [List.length_map, List.drop_length]
        rfl
      rw [dl] at eq
      have eq : chainL es g s (lks ps) = decide (t = g) := eq
      refine s_ret (ev_is (ev_op (x := .str t) (y := .str g) (ev_var rfl) (ev_var rfl) (rv_eq rfl)) (w := .bl (chainL es g s (lks ps))) ?_) fun H5 e5 => q H5 (e4.trans e5)
      rw [eq]
      congr 1
      exact decide_eq_decide.mpr ⟨fun h => V.str.inj h, fun h => by rw [h]⟩
end
/-! ### a search in breadth -/
abbrev Wn := Str × Nat
inductive Walk (ad : Str → List Str) (s : Str) : Str → Nat → Prop
  | zero : Walk ad s s 0
  | step {t u : Str} {n : Nat} : Walk ad s t n → u ∈ ad t → Walk ad s u (n + 1)
/-- what a search has found when it has ended -/
structure Far (ad : Str → List Str) (s : Str) (W : List Wn) : Prop where
  head : (s, 0) ∈ W
  nd : (W.map (·.1)).Nodup
  wk : ∀ x ∈ W, Walk ad s x.1 x.2
  cl : ∀ x ∈ W, ∀ u ∈ ad x.1, ∃ n, (u, n) ∈ W ∧ n ≤ x.2 + 1
theorem Far.near {ad : Str → List Str} {s : Str} {W : List Wn} (f : Far ad s W) {z : Str} {n : Nat} (w : Walk ad s z n) : ∃ m, (z, m) ∈ W ∧ m ≤ n := by
  induction w with
  | zero => exact ⟨0, f.head, Nat.le_refl _⟩
  | step _ hu ih =>
    obtain ⟨m, hm, le⟩ := ih
    obtain ⟨k, hk, le2⟩ := f.cl _ hm _ hu
    exact ⟨k, hk, by have : k ≤ m + 1 := le2; omega⟩
theorem Walk.mono {ad bd : Str → List Str} {s z : Str} {n : Nat} (h : ∀ t u, u ∈ ad t → u ∈ bd t) (w : Walk ad s z n) : Walk bd s z n := by
  induction w with
  | zero => exact .zero
  | step _ hu ih => exact .step ih (h _ _ hu)
theorem fst_inj {W : List Wn} (nd : (W.map (·.1)).Nodup) {z : Str} {n m : Nat} (h1 : (z, n) ∈ W) (h2 : (z, m) ∈ W) : n = m := by
  obtain ⟨i, hi, e1⟩ := List.mem_iff_getElem.mp h1
  obtain ⟨j, hj, e2⟩ := List.mem_iff_getElem.mp h2
  have z := List.pairwise_iff_getElem.mp nd
  rcases Nat.lt_trichotomy i j with l | l | l
  · have w := z i j (by rw [List.length_map]; exact hi) (by rw [List.length_map]; exact hj) l
    rw [List.getElem_map, List.getElem_map, e1, e2] at w
    exact absurd rfl w
  · subst l
    rw [e1] at e2
    exact (Prod.mk.inj e2).2
  · have w := z j i (by rw [List.length_map]; exact hj) (by rw [List.length_map]; exact hi) l
    rw [List.getElem_map, List.getElem_map, e1, e2] at w
    exact absurd rfl w
/-- a search under way: i are done, and of the next one the successors P -/
structure Bf (ad : Str → List Str) (s : Str) (W : List Wn) (i : Nat) (P : List Str) : Prop where
  head : (s, 0) ∈ W
  nd : (W.map (·.1)).Nodup
  wk : ∀ x ∈ W, Walk ad s x.1 x.2
  so : (W.map (·.2)).Pairwise (· ≤ ·)
  top : ∀ c, W[i]? = some c → ∀ x ∈ W, x.2 ≤ c.2 + 1
  cl : ∀ j x, j < i → W[j]? = some x → ∀ u ∈ ad x.1, ∃ n, (u, n) ∈ W ∧ n ≤ x.2 + 1
  part : ∀ c, W[i]? = some c → ∀ u ∈ P, ∃ n, (u, n) ∈ W ∧ n ≤ c.2 + 1
theorem Bf.start (ad : Str → List Str) (s : Str) : Bf ad s [(s, 0)] 0 [] where
  head := List.mem_cons_self
  nd := by simp
  wk := fun x m => by rw [List.mem_singleton.mp m]; exact .zero
  so := by simp
  top := fun c h x m => by rw [List.mem_singleton.mp m]; exact Nat.zero_le _
  cl := fun j x h => absurd h (Nat.not_lt_zero j)
  part := fun c h u m => nomatch m
theorem Bf.see {ad : Str → List Str} {s : Str} {W : List Wn} {i : Nat} {P : List Str} (b : Bf ad s W i P) {u : Str} (hu : u ∈ W.map (·.1)) : Bf ad s W i (P ++ [u]) :=
  ⟨b.head, b.nd, b.wk, b.so, b.top, b.cl, fun c hc v m => by
    rcases List.mem_append.mp m with m | m
    · exact b.part c hc v m
    · rw [List.mem_singleton.mp m]
      obtain ⟨x, mx, e⟩ := List.mem_map.mp hu
      exact ⟨x.2, by rw [← e]; exact mx, b.top c hc x mx⟩⟩
theorem Bf.add {ad : Str → List Str} {s : Str} {W : List Wn} {i : Nat} {P : List Str} (b : Bf ad s W i P) {c : Wn} (hc : W[i]? = some c) {u : Str} (hu : u ∉ W.map (·.1)) (au : u ∈ ad c.1) : Bf ad s (W ++ [(u, c.2 + 1)]) i (P ++ [u]) := by
  have li := (List.getElem?_eq_some_iff.mp hc).1
  have mc : c ∈ W := List.mem_of_getElem? hc
  have at_ : ∀ {j : Nat}, j < W.length → (W ++ [(u, c.2 + 1)])[j]? = W[j]? := fun h => List.getElem?_append_left h
  refine ⟨List.mem_append_left _ b.head, ?_, fun x m => ?_, ?_, fun d hd x m => ?_, fun j x hj hx v hv => ?_, fun d hd v m => ?_⟩
  · rw [List.map_append, List.nodup_append]
    refine ⟨b.nd, by simp, fun x hx y hy => ?_⟩
    rw [List.map_cons, List.map_nil] at hy
    rw [List.mem_singleton.mp hy]
    exact fun e => hu (by have e : x = u := e; rw [← e]; exact hx)
  · rcases List.mem_append.mp m with m | m
    · exact b.wk x m
    · rw [List.mem_singleton.mp m]; exact .step (b.wk c mc) au
  · rw [List.map_append, List.pairwise_append]
    refine ⟨b.so, by simp, fun x hx y hy => ?_⟩
    rw [List.map_cons, List.map_nil] at hy
    rw [List.mem_singleton.mp hy]
    obtain ⟨z, mz, rfl⟩ := List.mem_map.mp hx
    exact b.top c hc z mz
  · rw [at_ li, hc] at hd
    obtain rfl := Option.some.inj hd
    rcases List.mem_append.mp m with m | m
    · exact b.top c hc x m
    · rw [List.mem_singleton.mp m]; exact Nat.le_refl _
  · rw [at_ (by omega)] at hx
    obtain ⟨n, hn, le⟩ := b.cl j x hj hx v hv
    exact ⟨n, List.mem_append_left _ hn, le⟩
  · rw [at_ li, hc] at hd
    obtain rfl := Option.some.inj hd
    rcases List.mem_append.mp m with m | m
    · obtain ⟨n, hn, le⟩ := b.part c hc v m
      exact ⟨n, List.mem_append_left _ hn, le⟩
    · rw [List.mem_singleton.mp m]
      exact ⟨c.2 + 1, List.mem_append_right _ List.mem_cons_self, Nat.le_refl _⟩
theorem Bf.next {ad : Str → List Str} {s : Str} {W : List Wn} {i : Nat} {P : List Str} (b : Bf ad s W i P) {c : Wn} (hc : W[i]? = some c) (all : ∀ u ∈ ad c.1, u ∈ P) : Bf ad s W (i + 1) [] := by
  refine ⟨b.head, b.nd, b.wk, b.so, fun d hd x m => ?_, fun j x hj hx v hv => ?_, fun d hd v m => nomatch m⟩
  · have h1 := b.top c hc x m
    obtain ⟨l1, e1⟩ := List.getElem?_eq_some_iff.mp hc
    obtain ⟨l2, e2⟩ := List.getElem?_eq_some_iff.mp hd
    have z := List.pairwise_iff_getElem.mp b.so i (i + 1) (by rw [List.length_map]; exact l1) (by rw [List.length_map]; exact l2) (by omega)
    rw [List.getElem_map, List.getElem_map, e1, e2] at z
    omega
  · rcases Nat.lt_or_ge j i with l | l
    · exact b.cl j x l hx v hv
    · have e : j = i := by omega
      subst e
      rw [hc] at hx
      obtain rfl := Option.some.inj hx
      exact b.part c hc v (all v hv)
theorem Bf.done {ad : Str → List Str} {s : Str} {W : List Wn} {i : Nat} {P : List Str} (b : Bf ad s W i P) (h : W.length ≤ i) : Far ad s W :=
  ⟨b.head, b.nd, b.wk, fun x m u hu => by
    obtain ⟨j, hj, e⟩ := List.mem_iff_getElem.mp m
    exact b.cl j x (by omega) (by rw [List.getElem?_eq_getElem hj, e]) u hu⟩
/-- the literals of some names -/
def litsOf (nms : List Str) : List Str := nms.flatMap fun n => [n, "-" ++ n]
theorem lits_len (nms : List Str) : (litsOf nms).length = 2 * nms.length := by
  unfold litsOf
  induction nms with
  | nil => rfl
  | cons a r ih => rw [List.flatMap_cons, List.length_append, ih, List.length_cons]; show 2 + 2 * r.length = 2 * (r.length + 1); omega
theorem lits_mem {nms : List Str} {z : Str} (h : bare z ∈ nms) : z ∈ litsOf nms := by
  unfold litsOf
  rw [List.mem_flatMap]
  refine ⟨bare z, h, ?_⟩
  rcases lit_form (z := z) with e | e
  · rw [← e]; exact List.mem_cons_self
  · exact List.mem_cons_of_mem _ (List.mem_singleton.mpr e)
theorem far_len {W : List Wn} {nms : List Str} (nd : (W.map (·.1)).Nodup) (h : ∀ x ∈ W, bare x.1 ∈ nms) : W.length ≤ 2 * nms.length := by
  have z := perm_len_le (m := litsOf nms) nd fun x hx => by
    obtain ⟨y, my, rfl⟩ := List.mem_map.mp hx
    exact lits_mem (h y my)
  rw [List.length_map, lits_len] at z
  exact z
/-- the successors by the needs -/
def adN (es : List Rc) (z : Str) : List Str := (needsOf es z).map (·.2)
/-- the successors as the law finds them -/
def adL1 (R : List Str) (z : Str) : List Str := (R.filter fun y => decide (y ≠ z)).map flip
def adL (es : List Rc) (z : Str) : List Str := es.flatMap fun e => if z ∈ e.R then adL1 e.R z else []
theorem ad_same {es : List Rc} (rows : ∀ e ∈ es, RowD e.R e.D) (t u : Str) : u ∈ adN es t ↔ u ∈ adL es t := by
  unfold adN adL
  rw [List.mem_map, List.mem_flatMap]
  constructor
  · rintro ⟨y, hy, rfl⟩
    obtain ⟨e, m, _, hz, w, hw, ne, ec⟩ := mem_needs.mp (show (y.1, y.2) ∈ needsOf es t from hy)
    refine ⟨e, m, ?_⟩
    rw [if_pos ((rowD (rows e m) t).mp hz)]
    exact List.mem_map.mpr ⟨w, List.mem_filter.mpr ⟨(rowD (rows e m) w).mp hw, decide_eq_true ne⟩, ec.symm⟩
  · rintro ⟨e, m, h⟩
    by_cases hz : t ∈ e.R
    · rw [if_pos hz] at h
      obtain ⟨w, hw, rfl⟩ := List.mem_map.mp h
      obtain ⟨h1, h2⟩ := List.mem_filter.mp hw
      exact ⟨(e.n, flip w), mem_needs.mpr ⟨e, m, rfl, (rowD (rows e m) t).mpr hz, w, (rowD (rows e m) w).mpr h1, of_decide_eq_true h2, rfl⟩, rfl⟩
    · rw [if_neg hz] at h; cases h
section
open Evl
theorem ok__law_names_in (T : Txt P K mg) : FnOk P w K mg base CX0 2 T.f__law_names_in T.d__law_names_in ["_law_rows"] spNamesIn := by
  refine T.F__law_names_in.ok sc__law_names_in (fun vs H Q E h => ?_) (fun cdv A outer s H vs Q E hr h => ?_)
  · obtain ⟨r, rs, rfl, _⟩ := h
    rfl
  · obtain ⟨r, rs, rfl, hr0, hrs, few, q⟩ := h
    refine ⟨_, (pss_cons (ps_set (i := 1) sc__law_names_in.nd rfl (.inl rfl) (pe_lst pa_nil))
      (pss_cons (ps_for PassesOwn.never rfl (pi_list (pv 0)) (pg_name (i := 2) sc__law_names_in.nd rfl (.inl rfl)) (pss_one (ps_set (i := 1) sc__law_names_in.nd rfl (.inl rfl) (pe_op op_cat (pv 1) (pe_lc (own := [("_law_literal", 3)]) (g := gName 3) (by rfl) sc__law_names_in.nd (pi_list (pv 2)) (blkOk_by (own := [("_law_literal", 3)]) (N := N__law_names_in) (sc := defScope s__law_names_in) (by decide +kernel)) (fun _ _ _ _ _ => pg_name (i := 3) sc__law_names_in.nd rfl (Or.inl rfl)) (fun _ _ _ _ _ => pts_nil) (fun _ _ _ _ _ => (pe_call (ok__law_name T) (hr.mono (by decide)) rfl T.g__law_name T.F__law_name.kp T.b__law_name .nil pass0 (pa_cons (pv 3) pa_nil))))))))
      (pss_one (ps_ret (pe_call (ok__law_sorted T) (hr.mono (by decide)) rfl T.g__law_sorted T.F__law_sorted.kp T.b__law_sorted .nil pass0 (pa_cons (pv 1) pa_nil)))))), ?_⟩
    refine q_asgL (xs := []) (el_lst ea_nil (by decide)) (fun p H0 np e0 hp0 => ?_)
    refine ⟨_, rfl, r, rfl, ⟨_, sq_of (e0 _ _ hr0)⟩, for_list (K := K) (xs := rs.map fun x => V.ref x.1) (fun i σ H' => ∃ (u : Addr) (v2 : Option V), σ = [some (V.ref r), some (.ref u), v2, none] ∧ Ex H H' ∧ H' u = some (.lst ((rowNames (rs.take i)).map V.str)))
      ⟨p, none, rfl, e0, hp0⟩ (fun i σ H' _ ⟨_, _, _, h, _⟩ => sq_of (h _ _ hr0)) ?_ ?_⟩
    · rintro i x σ H3 hi ⟨u, v2, rfl, e3, hu⟩
      obtain ⟨y, hy, rfl⟩ : ∃ z, rs[i]? = some z ∧ V.ref z.1 = x := by
        rw [List.getElem?_map] at hi
        cases e : rs[i]? with
        | none => rw [e] at hi; cases hi
        | some z => rw [e] at hi; exact ⟨z, rfl, Option.some.inj hi⟩
      obtain ⟨hy1, lits⟩ := hrs y (List.mem_of_getElem? hy)
      have st : rowNames (rs.take (i + 1)) = rowNames (rs.take i) ++ y.2.map bare := by
        rw [List.take_add_one, hy]
        unfold rowNames
        rw [List.flatMap_append]
        simp
      have l1 := rowNames_take (rs := rs) (i + 1)
      rw [st, List.length_append, List.length_map] at l1
      have copy : EvL (tLc (iList K (tVar 2)) (gName 3) tYes (tCall (spPure fun z => .str (bare z)) [] E0 (tCons (tVar 3) tNil)) [3]) [some (V.ref r), some (.ref u), some (.ref y.1), none] H3 ((y.2.map bare).map V.str) :=
        el_mpS (K := K) bare (ev_var rfl) (e3 _ _ hy1) (by omega) (fun _ => rfl) (fun z m H1 e1 => ev_call (ea_cons (ev_var rfl) ea_nil) fun H2 e2 Q q E => ⟨z, rfl, Nat.le_trans (lit_txt (lits z m)).1 (by decide), q⟩)
      refine s_asgL (el_cat (els_at (ev_var rfl) hu) (els_new copy) (by rw [List.length_map, List.length_map, List.length_map]; omega)) fun u2 H4 nu e4 h4 => ⟨u2, _, rfl, e3.trans e4, ?_⟩
      rw [h4, st, List.map_append]
    · rintro σ H3 ⟨u, v2, rfl, e3, hu⟩
      rw [List.length_map, List.take_length] at hu
      exact ⟨_, rfl, u, rowNames rs, rfl, hu, by omega, fun N od p' H4 np' e4 hp' => q N od p' H4 (fresh_back e3 np') (e3.trans e4) hp'⟩
end
section
open Evl
/-- [e for y in a list for x in a tuple that y gives] -/
theorem el_lc2T {σ : L2.St} {H : Hp} {a : Addr} {ys : List V} {tl tu te : TE} {j j1 : Nat} {vs vs1 : List Nat} (f : V → List V) (h : Ev tl σ H (.ref a)) (hx : SqT K H a ys) (hz : (ys.flatMap f).length ≤ 40000) (hw : ∀ x, wipe ((wipe σ vs).set j (some x)) vs = wipe σ vs)
    (hw1 : ∀ y x, wipe ((wipe ((wipe σ vs).set j (some y)) vs1).set j1 (some x)) vs1 = wipe ((wipe σ vs).set j (some y)) vs1) (hi : ∀ y ∈ ys, ∀ H1, Ex H H1 → EvU tu ((wipe σ vs).set j (some y)) H1 (f y))
    (he : ∀ y ∈ ys, ∀ x ∈ f y, ∀ H1, Ex H H1 → Ev te ((wipe ((wipe σ vs).set j (some y)) vs1).set j1 (some x)) H1 x) : EvL (tLc2 (iTup K tl) (gName j) tYes (iTup K tu) (gName j1) tYes te vs vs1) σ H (ys.flatMap f) := fun H0 e Q q => h H0 e _ fun H1 e1 => by
  have hx1 := ex_t (e.trans e1) hx
  refine ⟨a, rfl, ⟨ys, hx1⟩, fun D hD => ?_⟩
  have P : ∃ P : Nat → Hp → Prop, P = fun i H' => Ex H1 H' ∧ H' D = some (.lst ((ys.take i).flatMap f)) := ⟨_, rfl⟩
  obtain ⟨P, hP⟩ := P
  refine ⟨fun i m H' => m = ys.length - i ∧ i ≤ ys.length ∧ P i H', ⟨_, rfl, Nat.zero_le _, by rw [hP]; exact ⟨Ex.new hD, upd_same⟩⟩, ?_⟩
  rintro i m H2 ⟨rfl, hi', p⟩
  have pp := p
  rw [hP] at pp
  obtain ⟨p1, p2⟩ := pp
  by_cases lt : i < ys.length
  · refine .inr ⟨⟨ys, ys[i], ex_t p1 hx1, by simp [lt]⟩, P (i + 1), fun H' z => ⟨ys.length - (i + 1), by omega, rfl, lt, z⟩, fun y H3 z => ?_⟩
    obtain ⟨rfl, z⟩ := z
    have hy : ys[i]? = some y := z ys (ex_t p1 hx1)
    have my : y ∈ ys := List.mem_of_getElem? hy
    refine ⟨hw y, ?_⟩
    unfold tYes
    dsimp only
    rw [if_pos rfl]
    refine hi y my _ ((e.trans e1).trans p1) _ (Ex.refl _) _ fun t H4 nt e4 ht => ⟨t, rfl, ⟨f y, st_of ht⟩, ?_⟩
    have nD : t ≠ D := fun z => by rw [z, p2] at nt; cases nt
    refine ⟨fun k m H' => m = (f y).length - k ∧ k ≤ (f y).length ∧ Ex H1 H' ∧ H' t = some (.tup (f y)) ∧ H' D = some (.lst ((ys.take i).flatMap f ++ (f y).take k)), ⟨_, rfl, Nat.zero_le _, p1.trans e4, ht, by rw [List.take_zero, List.append_nil]; exact e4 _ _ p2⟩, ?_⟩
    rintro k m H5 ⟨rfl, hk, r1, r2, r3⟩
    have small : ((ys.take i).flatMap f).length + (f y).length ≤ 40000 := by
      have z1 : ys = ys.take i ++ y :: ys.drop (i + 1) := by
        have z2 : ys.drop i = y :: ys.drop (i + 1) := by
          rw [List.drop_eq_getElem_cons lt]
          have z3 := (List.getElem?_eq_some_iff.mp hy).2
          rw [z3]
        rw [← z2, List.take_append_drop]
      have z4 : ys.flatMap f = (ys.take i).flatMap f ++ (f y ++ (ys.drop (i + 1)).flatMap f) := by
        have z5 := congrArg (List.flatMap f) z1
        rw [List.flatMap_append, List.flatMap_cons] at z5
        exact z5
      rw [z4, List.length_append, List.length_append] at hz
      omega
    by_cases lk : k < (f y).length
    · refine .inr ⟨⟨f y, (f y)[k], st_of r2, by simp [lk]⟩, fun H' => k + 1 ≤ (f y).length ∧ Ex H1 H' ∧ H' t = some (.tup (f y)) ∧ H' D = some (.lst ((ys.take i).flatMap f ++ (f y).take (k + 1))), fun H' z => ⟨(f y).length - (k + 1), by omega, rfl, z⟩, fun x H6 z => ?_⟩
      obtain ⟨rfl, z⟩ := z
      have hxk : (f y)[k]? = some x := z (f y) (st_of r2)
      refine ⟨hw1 y x, ?_⟩
      dsimp only
      rw [if_pos rfl]
      refine he y my x (List.mem_of_getElem? hxk) _ ((e.trans e1).trans r1) _ (Ex.refl _) _ fun H7 e7 => ⟨_, e7 _ _ r3, ?_, lk, Ex.mut (r1.trans e7) hD, ?_, ?_⟩
      · rw [List.length_append]
        exact sz_lt (by have := List.length_take_le k (f y); omega)
      · rw [upd_ne nD]; exact e7 _ _ r2
      · rw [upd_same, List.take_add_one, hxk, List.append_assoc] <;> rfl
    · have ek : k = (f y).length := by omega
      refine .inl ⟨⟨f y, st_of r2, by omega⟩, ?_⟩
      rw [hP]
      refine ⟨r1, ?_⟩
      rw [r3, ek, List.take_length, List.take_add_one, hy, List.flatMap_append] <;> simp
  · have ei : i = ys.length := by omega
    refine .inl ⟨⟨ys, ex_t p1 hx1, by omega⟩, ?_⟩
    rw [ei, List.take_length] at p2
    exact q D H2 (fresh_back e1 hD) (e1.trans p1) p2
end
section
open Evl
/-- both_signs(names), names a tuple -/
def spBothT : Sp := fun vs H Q _ => ∃ (a : Addr) (ns : List Str), vs = [.ref a] ∧ H a = some (.tup (ns.map V.str)) ∧ ns.length ≤ 200 ∧ (∀ z ∈ ns, z.cps.size ≤ 50) ∧ Evl.RetL ((ns.flatMap twoOf).map V.str) H Q
theorem okT_both_signs (T : Txt P K mg) : FnOk P w K mg base CX0 1 T.f_both_signs T.d_both_signs ["names"] spBothT := by
  refine T.F_both_signs.ok sc_both_signs (fun vs H Q E h => ?_) (fun cdv A outer s H vs Q E hr h => ?_)
  · obtain ⟨a, ns, rfl, _⟩ := h
    rfl
  · obtain ⟨a, ns, rfl, ha, few, short, q⟩ := h
    refine ⟨_, (pss_one (ps_ret (pe_lc2 (own := [("name", 1), ("literal", 2)]) (vs1 := [2]) (wi1 := iTup K (tTup (tCons (tVar 1) (tCons (fun σ H Q => tJs [tC (.str "-"), tFmt (tVar 1)] Str.empty σ H fun out H1 => Q (.str out) H1) tNil)))) (g := gName 1) (g1 := gName 2) (by rfl) sc_both_signs.nd (pi_tup (pv 0)) (blkOk_by (own := [("name", 1), ("literal", 2)]) (N := N_both_signs) (sc := defScope s_both_signs) (by decide +kernel)) (by decide)
      (fun _ _ _ _ _ => pg_name (i := 1) sc_both_signs.nd rfl (Or.inl rfl)) (fun _ _ _ _ _ => pts_nil) (fun _ _ _ _ _ => pi_tup (pe_tup (pa_cons (pv 1) (pa_cons (pe_joined (.cons pe_str (.cons (pe_fmt (pv 1)) .nil))) pa_nil))))
      (fun _ _ _ _ _ => pg_name (i := 2) sc_both_signs.nd rfl (Or.inl rfl)) (fun _ _ _ _ _ => pts_nil) (fun _ _ _ _ _ => (pv 2))))), ?_⟩
    refine s_retL (xs := (ns.map V.str).flatMap twoV) (el_lc2T (K := K) (ys := ns.map V.str) twoV (ev_var rfl) (st_of ha) ?_ (fun _ => rfl) (fun _ _ => rfl) (fun y hy H1 e1 => ?_) (fun y hy x hx H1 e1 => ev_var rfl)) (fun p H1 np e1 hp => q p H1 np e1 (by rw [hp, two_map]))
    · rw [two_map, List.length_map, two_len]; omega
    · obtain ⟨n, hn, rfl⟩ := List.mem_map.mp hy
      exact eu_tup (ea_cons (ev_var rfl) (ea_cons (ev_minus rfl (short n hn)) ea_nil)) (show 2 ≤ 100000 by decide)
/-- the table of the needs -/
theorem putK_keys {kvs : List (Key × V)} {k : Key} {v : V} : ∀ kv ∈ putK kvs k v, kv.1 = k ∨ ∃ y ∈ kvs, y.1 = kv.1 := by
  intro kv m
  unfold putK at m
  split at m
  · obtain ⟨y, my, rfl⟩ := List.mem_map.mp m
    refine .inr ⟨y, my, ?_⟩
    split <;> rfl
  · rcases List.mem_append.mp m with m | m
    · exact .inr ⟨kv, m, rfl⟩
    · rw [List.mem_singleton.mp m]; exact .inl rfl
theorem valV_has {k : Key} {v : V} : ∀ {kvs : List (Key × V)}, valV kvs k = some v → ∃ kv ∈ kvs, kv.1 = k := fun {kvs} h => by
  unfold valV at h
  obtain ⟨kv, h1, _⟩ := Option.map_eq_some_iff.mp h
  exact ⟨kv, List.mem_of_find?_eq_some h1, of_decide_eq_true (List.find?_some h1 :)⟩
/-- the keys of such a table: the literals of the names -/
def TblK (es : List Rc) (H : Hp) (d : Addr) : Prop := ∃ (kvs : List (Key × V)) (N : List Str), H d = some (.dK kvs) ∧ Ord (allNames ((es.map Rc.ent).map (·.2))) N ∧ kvs.length ≤ 400 ∧ (∀ kv ∈ kvs, ∃ z ∈ N.flatMap twoOf, kv.1 = .inr z) ∧ (∀ z ∈ N.flatMap twoOf, ∃ kv ∈ kvs, kv.1 = .inr z)
def Tbl (es : List Rc) (H : Hp) (d : Addr) : Prop := ∃ kvs : List (Key × V), Rd H d (.dK kvs) ∧ ∀ z : Str, (∃ a, valV kvs (.inr z) = some (.ref a) ∧ Acc H a (needsOf es z)) ∨ (valV kvs (.inr z) = none ∧ needsOf es z = [])
theorem Tbl.mono {es : List Rc} {H H' : Hp} {d : Addr} (t : Tbl es H d) (e : Ex H H') : Tbl es H' d := let ⟨kvs, h1, h2⟩ := t; ⟨kvs, rd_ex e h1, fun z => (h2 z).imp (fun ⟨a, h3, h4⟩ => ⟨a, h3, h4.mono e⟩) id⟩
theorem needs_none {es : List Rc} {z : Str} (h : ∀ e ∈ es, z ∉ e.D) : needsOf es z = [] := by
  unfold needsOf
  rw [List.flatMap_eq_nil_iff]
  exact fun e m => if_neg (h e m)
theorem Acc.off {H : Hp} {a D : Addr} {o u : HO} {L : List (Int × Str)} (h : Acc H a L) (hD : H D = some o) (n1 : ∀ xs, o ≠ .lst xs) (n2 : ∀ xs, o ≠ .tup xs) : Acc (upd H D u) a L := by
  obtain ⟨t, h1, h2⟩ := h
  refine ⟨t, ?_, fun k x hk => ?_⟩
  · rw [upd_ne (fun e => by rw [e, hD] at h1; exact n1 _ (Option.some.inj h1))]; exact h1
  · rw [upd_ne (fun e => by have z := h2 k x hk; rw [e, hD] at z; exact n2 _ (Option.some.inj z))]; exact h2 k x hk
/-- all_needs(book) -/
def spAllNeeds (C CB : Addr) : Sp := fun vs H Q _ => ∃ (b dx d : Addr) (es : List Rc) (last : Int), vs = [.ref b] ∧ BkAt C CB H b dx d (es.map Rc.ent) last ∧ EsOk es last ∧ ∀ H' p, Ex H H' → H p = none → Tbl es H' p → TblK es H' p → Q (.ref p) H'
theorem ok_all_needs (T : Txt P K mg) : FnOk P w K mg base CX0 13 T.f_all_needs T.d_all_needs ["book"] (spAllNeeds T.C_Clause T.C_Book) := by
  refine T.F_all_needs.ok sc_all_needs (fun vs H Q E h => ?_) (fun cdv A outer s H vs Q E hr h => ?_)
  · obtain ⟨b, dx, d, es, last, rfl, _⟩ := h
    rfl
  · obtain ⟨b, dx, d, es, last, rfl, B, o, q⟩ := h
    refine ⟨_, (pss_one (ps_ret (pe_dc (own := [("literal", 1)]) (g := gName 1) (tk := tVar 1) (tv := tCall (spNeeds T.C_Clause T.C_Book T.C_BadLiteral) [] E0 (tCons (tVar 0) (tCons (tVar 1) tNil))) (by rfl) sc_all_needs.nd (pi_list (pe_call (okT_both_signs T) (hr.mono (by decide)) rfl T.g_both_signs T.F_both_signs.kp T.b_both_signs .nil pass0 (pa_cons (pe_prop (pv 0) T.cl_Book T.P_Book_names (ok_Book_names T) (hr.mono (by decide)) T.b_Book_names .nil pass0 (by rfl)) pa_nil))) (blkOk_by (own := [("literal", 1)]) (N := N_all_needs) (sc := defScope s_all_needs) (by decide +kernel)) (fun _ _ _ _ _ => pg_name (i := 1) sc_all_needs.nd rfl (Or.inl rfl)) (fun _ _ _ _ _ => pts_nil) (fun _ _ _ _ _ => (pv 1)) (fun _ _ _ _ _ => (pe_call (ok_needs T) (hr.mono (by decide)) rfl T.g_needs T.F_needs.kp T.b_needs .nil passN0 (pa_cons (pv 0) (pa_cons (pv 1) pa_nil))))))), ?_⟩
    obtain ⟨N, od⟩ := ord_any (allNames ((es.map Rc.ent).map (·.2)))
    have len := o.lenD
    have nmN : ∀ n ∈ N, isName n = true := fun n hn => by
      have z := (od.mem n).mp hn
      rw [allNames_ent, List.mem_flatMap] at z
      obtain ⟨e, m, h⟩ := z
      obtain ⟨y, hy, rfl⟩ := List.mem_map.mp h
      exact rowLit o.row m ((rowD (o.row e m) y).mp hy)
    have lN : N.length ≤ 144 := Nat.le_trans (perm_len_le od.nd fun x hx => (od.mem x).mp hx) len
    have evN := eu_namesB (E := E0) (σ := [some (V.ref b), none]) (te := tVar 0) (ev_var rfl) B (by omega) od
    refine evN H (Ex.refl H) _ fun pn H1 npn e1 hpn => ?_
    refine ⟨pn, N, rfl, hpn, by omega, fun z hz => Nat.le_trans (name_txt (nmN z hz)).1 (by decide), fun pl H2 npl e2 hpl => ?_⟩
    refine ⟨pl, rfl, ⟨_, sq_of hpl⟩, fun D nD => ?_⟩
    have e12 := e1.trans e2
    have lits : ∀ z ∈ N.flatMap twoOf, isLit z = true := fun z hz => by
      obtain ⟨n, hn, h⟩ := List.mem_flatMap.mp hz
      have h : z ∈ [n, "-" ++ n] := h
      simp only [List.mem_cons, List.not_mem_nil, or_false] at h
      rcases h with rfl | rfl
      · exact name_lit (nmN _ hn)
      · exact minus_lit (nmN _ hn)
    refine dc_list (K := K) (xs := (N.flatMap twoOf).map V.str) (fun i H' => Ex H2 H' ∧ ∃ kvs : List (Key × V), H' D = some (.dK kvs) ∧ kvs.length ≤ i ∧ (∀ kv ∈ kvs, ∃ z ∈ N.flatMap twoOf, kv.1 = .inr z) ∧ ∀ z : Str, (z ∈ (N.flatMap twoOf).take i ∧ ∃ a, valV kvs (.inr z) = some (.ref a) ∧ Acc H' a (needsOf es z)) ∨ (z ∉ (N.flatMap twoOf).take i ∧ valV kvs (.inr z) = none)) ⟨Ex.new nD, [], upd_same, Nat.le_refl _, (fun kv m => nomatch m), fun z => .inr ⟨by simp, rfl⟩⟩ (fun i H' _ ⟨e, _⟩ => sq_of (e _ _ hpl)) ?_ ?_
    · rintro i x H3 hi ⟨e3, kvs, h3, len3, kk, all⟩
      obtain ⟨z, hz, rfl⟩ := pick_str hi
      have lz := lits z (List.mem_of_getElem? hz)
      have tz := lit_txt lz
      have li := (List.getElem?_eq_some_iff.mp hz).1
      refine ⟨rfl, ?_⟩
      unfold tYes
      dsimp only
      rw [if_pos rfl]
      refine ⟨_, rfl, .ref b, rfl, .str z, rfl, b, dx, d, es, last, z, rfl, B.mono (e12.trans e3), o, Nat.le_trans tz.1 (by decide), tz.2, fun _ H4 p e4 np acc => ?_, fun nl => absurd (lz.symm.trans nl) (by simp)⟩
      have h4 := e4 _ _ h3
      have nl : (N.flatMap twoOf).length ≤ 400 := by rw [two_len]; omega
      refine ⟨kvs, .inr z, rfl, h4, sz_lt (by omega), (e3.trans e4).mut nD, _, upd_same, Nat.le_trans (length_putK _ _ _) (by omega), fun kv m => (by
        rcases putK_keys kv m with h | ⟨y, my, h⟩
        · exact ⟨z, List.mem_of_getElem? hz, h⟩
        · rw [← h]; exact kk y my), fun y => ?_⟩
      have tk : (N.flatMap twoOf).take (i + 1) = (N.flatMap twoOf).take i ++ [z] := by rw [List.take_add_one, hz]; rfl
      rw [tk, valV_put]
      by_cases c : y = z
      · subst c
        exact .inl ⟨List.mem_append_right _ List.mem_cons_self, p, by rw [if_pos rfl], acc.off h4 (by simp) (by simp)⟩
      · have ne : ¬ ((.inr y : Key) = .inr z) := fun e => c (Sum.inr.inj e)
        rw [if_neg ne]
        rcases all y with ⟨m, a, h5, h6⟩ | ⟨m, h5⟩
        · exact .inl ⟨List.mem_append_left _ m, a, h5, (h6.mono e4).off h4 (by simp) (by simp)⟩
        · exact .inr ⟨fun k => (List.mem_append.mp k).elim m (fun k => c (List.mem_singleton.mp k)), h5⟩
    · rintro H3 ⟨e3, kvs, h3, len3, kk, all⟩
      rw [List.length_map, List.take_length] at all
      refine q H3 D (e12.trans e3) (fresh_back e12 nD) ⟨kvs, .inl h3, fun z => ?_⟩ ⟨kvs, N, h3, od, ?_, kk, fun z m => ?_⟩
      rotate_left
      · rw [List.length_map, two_len] at len3; omega
      · rcases all z with ⟨_, a, h, _⟩ | ⟨h, _⟩
        · exact valV_has h
        · exact absurd m h
      rcases all z with ⟨_, h⟩ | ⟨m, h⟩
      · exact .inl h
      · refine .inr ⟨h, needs_none fun e me hz => m ?_⟩
        refine List.mem_flatMap.mpr ⟨bare z, (od.mem _).mpr ?_, ?_⟩
        · rw [allNames_ent, List.mem_flatMap]
          exact ⟨e, me, List.mem_map.mpr ⟨z, hz, rfl⟩⟩
        · show z ∈ [bare z, "-" ++ bare z]
          rcases lit_form (z := z) with e | e
          · rw [← e]; exact List.mem_cons_self
          · exact List.mem_cons_of_mem _ (List.mem_singleton.mpr e)
end
section
open Evl
/-- what the search has of a literal: its distance, and the link by which it came -/
abbrev Ae := Str × Nat × Option PLk
def aeV : Option PLk → V
  | none => .non
  | some p => .ref p.1
def aeK (x : Ae) : Key × V := (.inr x.1, aeV x.2.2)
def wnOf (A : List Ae) : List Wn := A.map fun x => (x.1, x.2.1)
theorem wn_fst (A : List Ae) : (wnOf A).map (·.1) = A.map (·.1) := by unfold wnOf; rw [List.map_map]; rfl
theorem valV_ae {A : List Ae} {z : Str} : (valV (A.map aeK) (.inr z)).isSome = decide (z ∈ A.map (·.1)) := by
  induction A with
  | nil => rfl
  | cons x r ih =>
    rw [List.map_cons]
    by_cases c : x.1 = z
    · rw [valV_pos (show (aeK x).1 = .inr z by unfold aeK; rw [c])]
      rw [List.map_cons, c]
      simp
    · rw [valV_neg (show ¬ (aeK x).1 = .inr z from fun e => c (Sum.inr.inj e)), ih, List.map_cons]
      exact decide_eq_decide.mpr ⟨fun h => List.mem_cons_of_mem _ h, fun h => (List.mem_cons.mp h).elim (fun e => absurd e.symm c) id⟩
theorem valV_at_ae {A : List Ae} (nd : (A.map (·.1)).Nodup) {x : Ae} (m : x ∈ A) : valV (A.map aeK) (.inr x.1) = some (aeV x.2.2) := by
  induction A with
  | nil => cases m
  | cons y r ih =>
    rw [List.map_cons, List.nodup_cons] at nd
    rw [List.map_cons]
    rcases List.mem_cons.mp m with rfl | m
    · exact valV_pos rfl
    · have c : ¬ (aeK y).1 = .inr x.1 := fun e => nd.1 (by
        have e : y.1 = x.1 := Sum.inr.inj e
        rw [e]; exact List.mem_map.mpr ⟨x, m, rfl⟩)
      rw [valV_neg c]
      exact ih nd.2 m
/-- where each comes from -/
structure Par (es : List Rc) (s : Str) (A : List Ae) : Prop where
  par : ∀ x ∈ A, ∀ p, x.2.2 = some p → p.2.2.2 = x.1 ∧ (p.2.2.1, p.2.2.2) ∈ needsOf es p.2.1 ∧ ∃ y ∈ A, y.1 = p.2.1 ∧ x.2.1 = y.2.1 + 1
  root : ∀ x ∈ A, x.2.2 = none → x.1 = s ∧ x.2.1 = 0
structure ArAt (H : Hp) (D : Addr) (A : List Ae) : Prop where
  di : H D = some (.dK (A.map aeK))
  tu : ∀ x ∈ A, ∀ p, x.2.2 = some p → H p.1 = some (.tup (lkV p.2))
theorem ArAt.mono {H H' : Hp} {D : Addr} {A : List Ae} (a : ArAt H D A) (e : Ex H H') : ArAt H' D A := ⟨e _ _ a.di, fun x m p h => e _ _ (a.tu x m p h)⟩
theorem Acc.put {H : Hp} {a p : Addr} {o u : HO} {L : List (Int × Str)} (h : Acc H a L) (n : a ≠ p) (hp : H p = some o) (n2 : ∀ xs, o ≠ .tup xs) : Acc (upd H p u) a L := by
  obtain ⟨t, h1, h2⟩ := h
  refine ⟨t, by rw [upd_ne n]; exact h1, fun k x hk => ?_⟩
  rw [upd_ne (fun e => by have z := h2 k x hk; rw [e, hp] at z; exact n2 _ (Option.some.inj z))]
  exact h2 k x hk
theorem q_dput {tv : TE} {σ : L2.St} {H : Hp} {De : Ends} {tz : TS} {i j : Nat} {D : Addr} {z : Str} {kvs : List (Key × V)} {xs : List V} (hv : EvU tv σ H xs) (hi : σ[i]? = some (some (V.ref D))) (hj : σ[j]? = some (some (V.str z))) (hD : H D = some (.dK kvs)) (few : kvs.length < 100000)
    (k : ∀ u H1, H u = none → Ex H H1 → H1 u = some (.tup xs) → tz De σ (upd H1 D (.dK (putK kvs (.inr z) (.ref u))))) : tSeq (sDPut (tVar i) (tVar j) tv) tz De σ H := by
  show tv σ H fun v H1 => ∃ x, σ[i]? = some (some x) ∧ ∃ y, σ[j]? = some (some y) ∧ ∃ a H4, x = .ref a ∧ DPut H1 a y v H4 ∧ tz De σ H4
  refine hv H (Ex.refl H) _ fun u H1 nu e1 hu => ?_
  exact ⟨_, hi, _, hj, D, _, rfl, .inl ⟨kvs, .inr z, e1 _ _ hD, rfl, sz_lt few, rfl⟩, k u H1 nu e1 hu⟩
theorem ev_dnot {σ : L2.St} {H : Hp} {i j : Nat} {D : Addr} {z : Str} {kvs : List (Key × V)} (hj : σ[j]? = some (some (V.str z))) (hi : σ[i]? = some (some (V.ref D))) (hD : H D = some (.dK kvs)) : Ev (tDNotIn (tVar j) (tVar i)) σ H (.bl (!(valV kvs (.inr z)).isSome)) := fun H1 e Q q =>
  ⟨_, hj, _, hi, D, valV kvs (.inr z), rfl, DGet.k (k := .inr z) (e _ _ hD), q H1 (Ex.refl H1)⟩
theorem s_forP {tl : TE} {σ : L2.St} {H : Hp} {D : Ends} {g : TG} {tu : TS} {F : Addr → List V → Hp → Prop} (h : ∀ Q : VK, (∀ p H1 xs, Ex H H1 → H1 p = some (.lst xs) → F p xs H1 → Q (.ref p) H1) → tl σ H Q)
    (k : ∀ p H1 xs, Ex H H1 → H1 p = some (.lst xs) → F p xs H1 → ∃ Pv : Nat → L2.St → Hp → Prop, Pv 0 σ H1 ∧ (∀ i σ' H', i ≤ xs.length → Pv i σ' H' → H' p = some (.lst xs)) ∧ (∀ i x σ' H', xs[i]? = some x → Pv i σ' H' → g x σ' H' fun σ2 H2 => tu { D with nx := Pv (i + 1), ct := Pv (i + 1), bk := D.nx } σ2 H2) ∧ (∀ σ' H', Pv xs.length σ' H' → D.nx σ' H')) : tFor (iList K tl) g tu D σ H :=
  h _ fun p H1 xs e hp f => let ⟨Pv, h0, hl, hs, hd⟩ := k p H1 xs e hp f; ⟨p, rfl, ⟨xs, sq_of hp⟩, for_list Pv h0 (fun i σ' H' l q => sq_of (hl i σ' H' l q)) hs hd⟩
/-- table.get(literal, []) -/
theorem get_tbl {σ : L2.St} {H : Hp} {es : List Rc} {d : Addr} {i j : Nat} {z : Str} (t : Tbl es H d) (hi : σ[i]? = some (some (V.ref d))) (hj : σ[j]? = some (some (V.str z))) (Q : VK) (k : ∀ q H1, Ex H H1 → Acc H1 q (needsOf es z) → Q (.ref q) H1) : tDGet2 (tVar i) (tVar j) (tLst tNil) σ H Q := by
  obtain ⟨kvs, hd, all⟩ := t
  refine ⟨_, hi, d, rfl, .inl ⟨kvs, hd⟩, _, hj, (by show 0 ≤ sizeLine; decide), fun p np => ?_⟩
  have e1 : Ex H (upd H p (.lst [])) := Ex.new np
  refine ⟨valV kvs (.inr z), .inl ⟨kvs, .inr z, rd_ex e1 hd, rfl, rfl⟩, ?_⟩
  rcases all z with ⟨a, h1, h2⟩ | ⟨h1, h2⟩
  · rw [h1]
    exact k a _ e1 (h2.mono e1)
  · rw [h1]
    refine k p _ e1 ?_
    rw [h2]
    exact ⟨fun _ => 0, upd_same, fun k x h => nomatch h⟩
theorem bare_flip {z : Str} (h : isLit z = true) : bare (flip z) = bare z := by
  have nb : isName (bare z) = true := h
  cases d : dash z with
  | false => rw [flip_no d, bare_minus, bare_no d]
  | true => rw [flip_dash d, bare_no (name_dash nb)]
theorem need_bare {es : List Rc} {nms : List Str} (rows : ∀ e ∈ es, RowD e.R e.D) (sub : ∀ e ∈ es, ∀ z ∈ e.R, bare z ∈ nms) {n : Int} {c z : Str} (h : (n, c) ∈ needsOf es z) : bare c ∈ nms := by
  obtain ⟨e, m, _, _, y, hy, _, rfl⟩ := mem_needs.mp h
  have hR := (rowD (rows e m) y).mp hy
  rw [bare_flip (rowLit rows m hR)]
  exact sub e m y hR
/-- the search's state -/
structure ArI (es : List Rc) (s : Str) (nms : List Str) (H H' : Hp) (D wt : Addr) (A : List Ae) : Prop where
  ex : Ex H H'
  at_ : ArAt H' D A
  wl : H' wt = some (.lst (A.map fun x => V.str x.1))
  par : Par es s A
  lit : ∀ x ∈ A, isLit x.1 = true ∧ bare x.1 ∈ nms
theorem ArI.mono {es : List Rc} {s : Str} {nms : List Str} {H H' H2 : Hp} {D wt : Addr} {A : List Ae} (I : ArI es s nms H H' D wt A) (e : Ex H' H2) : ArI es s nms H H2 D wt A := ⟨I.ex.trans e, I.at_.mono e, e _ _ I.wl, I.par, I.lit⟩
/-- _arrivals(table, start) -/
def spArr : Sp := fun vs H Q _ => ∃ (d : Addr) (s : Str) (es : List Rc) (nms : List Str), vs = [.ref d, .str s] ∧ Tbl es H d ∧ isLit s = true ∧ bare s ∈ nms ∧ nms.length ≤ 13 ∧ (∀ e ∈ es, RowD e.R e.D) ∧ (∀ e ∈ es, ∀ z ∈ e.R, bare z ∈ nms) ∧ es.length ≤ 24 ∧
  ∀ H' D A, Ex H H' → H D = none → ArAt H' D A → Par es s A → Far (adN es) s (wnOf A) → (∀ x ∈ A, isLit x.1 = true ∧ bare x.1 ∈ nms) → Q (.ref D) H'
theorem ok__arrivals (T : Txt P K mg) : FnOk P w K mg base CX0 1 T.f__arrivals T.d__arrivals ["table", "start"] spArr := by
  refine T.F__arrivals.ok sc__arrivals (fun vs H Q E h => ?_) (fun cdv A outer s H vs Q E hr h => ?_)
  · obtain ⟨d, s, es, nms, rfl, _⟩ := h
    rfl
  · obtain ⟨d, s, es, nms, rfl, tb, ls, sn, n13, rows, sub, e24, q⟩ := h
    have hu := hr.un
    refine ⟨_, (pss_cons (ps_set (i := 2) sc__arrivals.nd rfl (.inl rfl) (pe_disp (pps_cons (pv 1) pe_non pps_nil) (by rfl) (by rfl) (fun z => by cases z) (by decide)))
      (pss_cons (ps_set (i := 3) sc__arrivals.nd rfl (.inl rfl) (pe_lst (pa_cons (pv 1) pa_nil)))
      (pss_cons (ps_set (i := 4) sc__arrivals.nd rfl (.inl rfl) pe_int)
      (pss_cons (ps_while PassesOwn.never (pt_cmpR op_lt (pv 4) (pe_callB call_len_seq (by rfl) T.n_len PySem.boot_len (pa_cons (pv 3) pa_nil)) (nomark _))
        (pss_cons (ps_set (i := 5) sc__arrivals.nd rfl (.inl rfl) (pe_ix ix_list (pv 3) (pv 4) (fun _ _ => rfl)))
        (pss_cons (ps_set (i := 4) sc__arrivals.nd rfl (.inl rfl) (pe_op op_add (pv 4) pe_int))
        (pss_one (ps_for PassesOwn.never rfl (pi_list (pe_dget2 (by exact lt_u1 (k := 0) hu) (pv 0) (pv 5) (pe_lst pa_nil) ⟨rfl, rfl, rfl, rfl⟩)) (pg_tup rfl (pgs_cons (pg_name (i := 6) sc__arrivals.nd rfl (.inl rfl)) (pgs_cons (pg_name (i := 7) sc__arrivals.nd rfl (.inl rfl)) pgs_nil)))
          (pss_one (ps_if (pt_cmp (pc_dnotin (by exact lt_u1 (k := 0) hu) (pv 7) (pv 2)) (by rfl)) (pss_cons (ps_dput (by exact lt_u1 (k := 0) hu) (pv 2) (pv 7) (pe_tup (pa_cons (pv 5) (pa_cons (pv 6) (pa_cons (pv 7) pa_nil)))) rfl)
            (pss_one (ps_expr (pe_bm PySem.F.plainAttrs_list PySem.F.slot_list_append PySem.F.type_list_append mt_append (pv 3) (pa_cons (pv 7) pa_nil))))) pss_nil)))))))
      (pss_one (ps_ret (pv 2))))))), ?_⟩
    refine q_asgLc fun D nD => ?_
    refine ⟨_, rfl, upd_same, [(.inr s, .non)], rfl, by show 1 ≤ 15; omega, ?_⟩
    rw [upd_upd]
    have hm : mergeK [] [((.inr s : Key), V.non)] = [((.inr s : Key), V.non)] := rfl
    rw [hm]
    have e1 : Ex H (upd H D (.dK [((.inr s : Key), V.non)])) := Ex.new nD
    have hD1 : (upd H D (.dK [((.inr s : Key), V.non)])) D = some (.dK ([(s, 0, none)].map aeK)) := upd_same
    generalize upd H D (.dK [((.inr s : Key), V.non)]) = H1 at e1 hD1
    dsimp only [gName]
    refine q_asgL (xs := [.str s]) (el_lst (ea_cons (ev_var rfl) ea_nil) (by show 1 ≤ 100000; omega)) fun wt H2 nwt e2 hwt => ?_
    refine q_asg (v := .int 0) ev_c fun H3 e3 => ?_
    have e13 := (e1.trans e2).trans e3
    have nwt0 : H wt = none := fresh_back e1 nwt
    have Dw : D ≠ wt := fun e => by rw [← e, hD1] at nwt; cases nwt
    have I3 : ArI es s nms H H3 D wt [(s, 0, none)] := ⟨e13, ⟨e3 _ _ (e2 _ _ hD1), fun x m p h => (by rw [List.mem_singleton.mp m] at h; cases h)⟩, e3 _ _ hwt, ⟨fun x m p h => (by rw [List.mem_singleton.mp m] at h; cases h), fun x m _ => (by rw [List.mem_singleton.mp m]; exact ⟨rfl, rfl⟩)⟩, fun x m => by rw [List.mem_singleton.mp m]; exact ⟨ls, sn⟩⟩
    refine q_while (fun m σ' H' => ∃ (i : Nat) (A : List Ae) (v5 v6 v7 : Option V), σ' = [some (V.ref d), some (.str s), some (.ref D), some (.ref wt), some (.int (i : Int)), v5, v6, v7] ∧ m = 26 - i ∧ ArI es s nms H H' D wt A ∧ Bf (adN es) s (wnOf A) i []) 26 ⟨0, _, none, none, none, rfl, rfl, I3, Bf.start _ _⟩ ?_
    rintro m σ' H4 ⟨i, A, v5, v6, v7, rfl, rfl, I, bf⟩
    have lA : A.length ≤ 26 := by
      have z := far_len (W := wnOf A) (nms := nms) bf.nd fun x m => by
        unfold wnOf at m
        obtain ⟨y, my, rfl⟩ := List.mem_map.mp m
        exact (I.lit y my).2
      unfold wnOf at z
      rw [List.length_map] at z
      omega
    have lE : ((A.map fun x => V.str x.1).length : Int) = (A.length : Int) := by rw [List.length_map]
    refine ⟨decide ((i : Int) < (A.length : Int)), et_test (ev_op (ev_var rfl) (ev_is (ev_len (ev_var rfl) (sq_of I.wl)) (by rw [lE])) (fun H1 _ Q q => ⟨_, _, rfl, rfl, q H1 (Ex.refl H1)⟩)), fun lt H5 e5 => ?_, fun ge H5 e5 => ?_⟩
    · have li : i < A.length := by have := of_decide_eq_true lt; omega
      refine ⟨fun σ' H' => ∃ (A' : List Ae) (v6 v7 : Option V), σ' = [some (V.ref d), some (.str s), some (.ref D), some (.ref wt), some (.int ((i + 1 : Nat) : Int)), some (.str A[i].1), v6, v7] ∧ ArI es s nms H H' D wt A' ∧ Bf (adN es) s (wnOf A') (i + 1) [], fun σ2 H2 ⟨A', v6, v7, e, I', b'⟩ => ⟨26 - (i + 1), by omega, i + 1, A', _, v6, v7, e, rfl, I', b'⟩, ?_⟩
      have I5 := I.mono e5
      refine q_asg (v := .str A[i].1) (ev_op (ev_var rfl) (ev_var rfl) (rv_ixL (sq_of I5.wl) (atI_nat (j := i) (by rw [List.getElem?_map, List.getElem?_eq_getElem li]; rfl)))) fun H6 e6 => ?_
      refine q_asg (v := .int ((i + 1 : Nat) : Int)) (ev_is (v := .int ((i : Int) + 1)) (ev_op (ev_var rfl) ev_c (fun H1 _ Q q => ⟨_, _, rfl, rfl, q H1 (Ex.refl H1)⟩)) (by congr 1)) fun H7 e7 => ?_
      have I7 := (I5.mono e6).mono e7
      have cI : (wnOf A)[i]? = some (A[i].1, A[i].2.1) := by unfold wnOf; rw [List.getElem?_map, List.getElem?_eq_getElem li]; rfl
      refine s_forP (K := K) (F := fun qa xs H1 => Acc H1 qa (needsOf es A[i].1)) (fun Q1 k1 => get_tbl (i := 0) (j := 5) (tb.mono I7.ex) rfl rfl Q1 fun qa H8 e8 acc => k1 qa H8 _ e8 acc.choose_spec.1 acc) fun qa H8 xs e8 hq acc => ?_
      have I8 := I7.mono e8
      obtain ⟨tt, hq2, _⟩ := id acc
      rw [hq] at hq2
      obtain rfl : xs = _ := HO.lst.inj (Option.some.inj hq2)
      have small : (needsOf es A[i].1).length ≤ 144 := by
        have := needs_len6 (z := A[i].1) (es := es) fun e m => by rw [rowLen (rows e m)]; exact (rows e m).1.few
        omega
      have qlen : ((List.range (needsOf es A[i].1).length).map fun k => V.ref (tt k)).length = (needsOf es A[i].1).length := by rw [List.length_map, List.length_range]
      refine ⟨fun k σ' H' => ∃ (A' : List Ae) (v6 v7 : Option V), σ' = [some (V.ref d), some (.str s), some (.ref D), some (.ref wt), some (.int ((i + 1 : Nat) : Int)), some (.str A[i].1), v6, v7] ∧ ArI es s nms H H' D wt A' ∧ Acc H' qa (needsOf es A[i].1) ∧ H' qa = some (.lst ((List.range (needsOf es A[i].1).length).map fun k => V.ref (tt k))) ∧ Bf (adN es) s (wnOf A') i (((needsOf es A[i].1).take k).map (·.2)) ∧ (∀ x ∈ A, x ∈ A') ∧ (wnOf A')[i]? = some (A[i].1, A[i].2.1), ⟨A, _, _, rfl, I8, acc, hq, bf, fun x m => m, cI⟩, fun k σ' H' _ ⟨_, _, _, _, _, _, h, _⟩ => h, ?_, ?_⟩
      · rintro k x σ' H9 hk ⟨A', v6', v7', rfl, I9, acc9, hq9, b9, sub9, c9⟩
        have lk : k < (needsOf es A[i].1).length := by
          have w := (List.getElem?_eq_some_iff.mp hk).1
          rw [qlen] at w
          exact w
        rw [List.getElem?_map, List.getElem?_range lk] at hk
        obtain rfl : V.ref (tt k) = x := Option.some.inj hk
        obtain ⟨t9, h9, ht9⟩ := id acc9
        rw [hq9] at h9
        have tk : tt k = t9 k := by
          have z := congrArg (fun l : List V => l[k]?) (HO.lst.inj (Option.some.inj h9))
          rw [List.getElem?_map, List.getElem?_map, List.getElem?_range lk] at z
          exact V.ref.inj (Option.some.inj z)
        have hop := ht9 k _ (List.getElem?_eq_getElem lk)
        rw [← tk] at hop
        have mop : ((needsOf es A[i].1)[k].1, (needsOf es A[i].1)[k].2) ∈ needsOf es A[i].1 := List.getElem_mem lk
        have nx : ((needsOf es A[i].1).take (k + 1)).map (·.2) = ((needsOf es A[i].1).take k).map (·.2) ++ [(needsOf es A[i].1)[k].2] := by
          rw [List.take_add_one, List.getElem?_eq_getElem lk, List.map_append]; rfl
        generalize (needsOf es A[i].1)[k] = op at hop mop nx
        have mad : op.2 ∈ adN es A[i].1 := List.mem_map.mpr ⟨_, mop, rfl⟩
        have qw : qa ≠ wt := fun e => by
          rw [e, I9.wl] at hq9
          have z := congrArg (fun l : List V => l[k]?) (HO.lst.inj (Option.some.inj hq9))
          rw [List.getElem?_map, List.getElem?_map, List.getElem?_range lk] at z
          cases c : A'[k]? with
          | none => rw [c] at z; cases z
          | some y => rw [c] at z; cases z
        refine ⟨tt k, _, rfl, st_of hop, rfl, ?_⟩
        refine ⟨_, _, rfl, _, _, rfl, rfl, ?_⟩
        dsimp only [gName]
        refine s_when (et_B (ev_dnot rfl rfl I9.at_.di)) (fun c Ha ea => ?_) (fun c Ha ea => ?_)
        · have new : op.2 ∉ A'.map (·.1) := fun m => by rw [valV_ae, decide_eq_true m] at c; cases c
          have vn : valV (A'.map aeK) (.inr op.2) = none := by
            cases h : valV (A'.map aeK) (.inr op.2) with
            | none => rfl
            | some v => rw [h] at c; cases c
          have Ia := I9.mono ea
          have lA' : A'.length ≤ 26 := by
            have z := far_len (W := wnOf A') (nms := nms) b9.nd fun x m => by
              unfold wnOf at m
              obtain ⟨y, my, rfl⟩ := List.mem_map.mp m
              exact (I9.lit y my).2
            unfold wnOf at z
            rw [List.length_map] at z
            omega
          refine q_dput (xs := lkV (A[i].1, op.1, op.2)) (eu_tup (ea_cons (ev_var rfl) (ea_cons (ev_var rfl) (ea_cons (ev_var rfl) ea_nil))) (by show 3 ≤ 100000; omega)) rfl rfl Ia.at_.di (by rw [List.length_map]; omega) fun u Hb nu eb hu => ?_
          have Ib := Ia.mono eb
          rw [putK_new _ vn]
          have hD : (upd Hb D (.dK (A'.map aeK ++ [((.inr op.2 : Key), V.ref u)]))) D = some (.dK ((A' ++ [(op.2, A[i].2.1 + 1, some (u, (A[i].1, op.1, op.2)))]).map aeK)) := by rw [upd_same, List.map_append]; rfl
          have eD : Ex H (upd Hb D (.dK (A'.map aeK ++ [((.inr op.2 : Key), V.ref u)]))) := Ib.ex.mut nD
          have toD : ∀ {c : Addr} {o : HO}, Hb c = some o → (∀ kv, o ≠ .dK kv) → (upd Hb D (.dK (A'.map aeK ++ [((.inr op.2 : Key), V.ref u)]))) c = some o := fun {c o} h no => by
            rw [upd_ne (fun e => by rw [e, Ib.at_.di] at h; exact no _ (Option.some.inj h).symm)]; exact h
          have accD := ((acc9.mono ea).mono eb).off (D := D) (u := .dK (A'.map aeK ++ [((.inr op.2 : Key), V.ref u)])) Ib.at_.di (by simp) (by simp)
          have wlD := toD Ib.wl (by simp)
          have hqD := toD (eb _ _ (ea _ _ hq9)) (by simp)
          have tuD : ∀ x ∈ A', ∀ p, x.2.2 = some p → (upd Hb D (.dK (A'.map aeK ++ [((.inr op.2 : Key), V.ref u)]))) p.1 = some (.tup (lkV p.2)) := fun x m p h => toD (Ib.at_.tu x m p h) (by simp)
          have huD := toD hu (by simp)
          generalize upd Hb D (.dK (A'.map aeK ++ [((.inr op.2 : Key), V.ref u)])) = Hc at hD eD accD wlD hqD tuD huD
          refine s_app (K := K) wlD (ev_var rfl) (ev_var rfl) (by rw [List.length_map]; omega) fun Hd ed => ?_
          have wlH := ed _ _ wlD
          have toW : ∀ {c : Addr} {o : HO}, Hc c = some o → (∀ xs, o ≠ .lst xs) → (upd Hd wt (.lst ((A'.map fun x => V.str x.1) ++ [.str op.2]))) c = some o := fun {c o} h no => by
            rw [upd_ne (fun e => by rw [e, wlD] at h; exact no _ (Option.some.inj h).symm)]; exact ed _ _ h
          refine ⟨A' ++ [(op.2, A[i].2.1 + 1, some (u, (A[i].1, op.1, op.2)))], _, _, rfl, ⟨(eD.trans ed).mut nwt0, ⟨toW hD (by simp), fun x m p h => ?_⟩, ?_, ⟨fun x m p h => ?_, fun x m h => ?_⟩, fun x m => ?_⟩, (accD.mono ed).put qw wlH (by simp), ?_, ?_, fun x m => List.mem_append_left _ (sub9 x m), ?_⟩
          · rcases List.mem_append.mp m with m | m
            · exact toW (tuD x m p h) (by simp)
            · rw [List.mem_singleton.mp m] at h
              obtain rfl := Option.some.inj h
              exact toW huD (by simp)
          · rw [upd_same, List.map_append]; rfl
          · rcases List.mem_append.mp m with m | m
            · obtain ⟨h1, h2, y, my, h3⟩ := I9.par.par x m p h
              exact ⟨h1, h2, y, List.mem_append_left _ my, h3⟩
            · rw [List.mem_singleton.mp m] at h ⊢
              obtain rfl := Option.some.inj h
              exact ⟨rfl, mop, A[i], List.mem_append_left _ (sub9 _ (List.getElem_mem li)), rfl, rfl⟩
          · rcases List.mem_append.mp m with m | m
            · exact I9.par.root x m h
            · rw [List.mem_singleton.mp m] at h; cases h
          · rcases List.mem_append.mp m with m | m
            · exact I9.lit x m
            · rw [List.mem_singleton.mp m]; exact ⟨need_lit rows mop, need_bare rows sub mop⟩
          · rw [upd_ne qw]; exact ed _ _ hqD
          · have e : wnOf (A' ++ [(op.2, A[i].2.1 + 1, some (u, (A[i].1, op.1, op.2)))]) = wnOf A' ++ [(op.2, A[i].2.1 + 1)] := by unfold wnOf; rw [List.map_append]; rfl
            rw [e, nx]
            exact b9.add (c := (A[i].1, A[i].2.1)) c9 (by rw [wn_fst]; exact new) mad
          · have e : wnOf (A' ++ [(op.2, A[i].2.1 + 1, some (u, (A[i].1, op.1, op.2)))]) = wnOf A' ++ [(op.2, A[i].2.1 + 1)] := by unfold wnOf; rw [List.map_append]; rfl
            rw [e, List.getElem?_append_left (List.getElem?_eq_some_iff.mp c9).1]
            exact c9
        · have old : op.2 ∈ A'.map (·.1) := by
            by_cases m : op.2 ∈ A'.map (·.1)
            · exact m
            · rw [valV_ae, decide_eq_false m] at c; cases c
          exact ⟨A', _, _, rfl, I9.mono ea, acc9.mono ea, ea _ _ hq9, (by rw [nx]; exact b9.see (by rw [wn_fst]; exact old)), sub9, c9⟩
      · rintro σ' H9 ⟨A', v6', v7', rfl, I9, acc9, hq9, b9, sub9, c9⟩
        rw [qlen, List.take_length] at b9
        exact ⟨A', _, _, rfl, I9, b9.next c9 fun u hu => hu⟩
    · have ge : A.length ≤ i := by have := of_decide_eq_false ge; omega
      refine s_ret (ev_var rfl) fun H6 e6 => q H6 D A (I.ex.trans (e5.trans e6)) nD ((I.at_.mono e5).mono e6) I.par (bf.done (by unfold wnOf; rw [List.length_map]; exact ge)) I.lit
end
section
open Evl
theorem ar_len {es : List Rc} {s : Str} {nms : List Str} {A : List Ae} (f : Far (adN es) s (wnOf A)) (lit : ∀ x ∈ A, isLit x.1 = true ∧ bare x.1 ∈ nms) (n13 : nms.length ≤ 13) : A.length ≤ 26 := by
  have z := far_len (W := wnOf A) (nms := nms) f.nd fun x m => by
    unfold wnOf at m
    obtain ⟨y, my, rfl⟩ := List.mem_map.mp m
    exact (lit y my).2
  unfold wnOf at z
  rw [List.length_map] at z
  omega
theorem gen_len_le {α : Type} [DecidableEq α] : ∀ {l m : List α}, l.Nodup → (∀ x ∈ l, x ∈ m) → l.length ≤ m.length
  | [], m, _, _ => Nat.zero_le _
  | x :: l, m, nd, sub => by
    obtain ⟨n1, n2⟩ := List.nodup_cons.mp nd
    have pe := List.perm_cons_erase (sub x List.mem_cons_self)
    have z := gen_len_le (m := m.erase x) n2 fun y hy => (List.mem_erase_of_ne (fun (e : y = x) => n1 (by rw [← e]; exact hy))).mpr (sub y (List.mem_cons_of_mem _ hy))
    have q := pe.length_eq
    simp only [List.length_cons] at q ⊢
    omega
theorem down_all {es : List Rc} {s : Str} {A : List Ae} (p : Par es s A) : ∀ (n : Nat) (x : Ae), x ∈ A → x.2.1 = n → ∀ k ≤ n, ∃ y ∈ A, y.2.1 = k
  | 0, x, m, e, k, hk => ⟨x, m, by omega⟩
  | n + 1, x, m, e, k, hk => by
    by_cases c : k = n + 1
    · exact ⟨x, m, by omega⟩
    · cases h : x.2.2 with
      | none => have := (p.root x m h).2; omega
      | some q =>
        obtain ⟨_, _, y, my, _, e2⟩ := p.par x m q h
        exact down_all p n y my (by omega) k (by omega)
theorem dist_le {es : List Rc} {s : Str} {A : List Ae} (p : Par es s A) {x : Ae} (m : x ∈ A) : x.2.1 + 1 ≤ A.length := by
  have z := gen_len_le (l := List.range (x.2.1 + 1)) (m := A.map (·.2.1)) List.nodup_range fun k hk => by
    obtain ⟨y, my, e⟩ := down_all p _ x m rfl k (by have := List.mem_range.mp hk; omega)
    exact List.mem_map.mpr ⟨y, my, e⟩
  rw [List.length_range, List.length_map] at z
  exact z
/-- what a search from s knows of the book -/
structure SrOk (es : List Rc) (nms : List Str) (s : Str) : Prop where
  sn : isLit s = true → bare s ∈ nms
  n13 : nms.length ≤ 13
  sub : ∀ e ∈ es, ∀ z ∈ e.R, bare z ∈ nms
/-- what comes of a search for a chain -/
def GoodL (es : List Rc) (s g : Str) (n : Nat) (ps : List PLk) : Prop := ps.length = n ∧ n ≤ 26 ∧ chainS es g s (lks ps) = true ∧ ∀ x ∈ ps, isLit x.2.1 = true ∧ isLit x.2.2.2 = true
def Oc (es : List Rc) (s g : Str) (W : List Wn) (H H' : Hp) (v : V) : Prop := (v = .non ∧ ∀ n, (g, n) ∉ W) ∨ ∃ r ps n, v = .ref r ∧ (g, n) ∈ W ∧ H r = none ∧ H' r = some (.lst (lkRefs ps)) ∧ LksAt H' ps ∧ GoodL es s g n ps
theorem ch_cut {es : List Rc} {s g : Str} {W : List Wn} {H : Hp} {Q : VK} (k : ∀ v H', Ex H H' → Oc es s g W H H' v → Q v H') : ((∀ n, (g, n) ∉ W) → ∀ H', Ex H H' → Q .non H') ∧ (∀ n, (g, n) ∈ W → ∀ H' r ps, Ex H H' → H r = none → H' r = some (.lst (lkRefs ps)) → LksAt H' ps → ps.length = n → n ≤ 26 → chainS es g s (lks ps) = true → (∀ x ∈ ps, isLit x.2.1 = true ∧ isLit x.2.2.2 = true) → Q (.ref r) H') :=
  ⟨fun no H' e => k .non H' e (.inl ⟨rfl, no⟩), fun n m H' r ps e nr hr lk len n26 ch li => k (.ref r) H' e (.inr ⟨r, ps, n, rfl, m, nr, hr, lk, len, n26, ch, li⟩)⟩
/-- chain(book, start, goal) -/
def spCh (C CB CL : Addr) : Sp := fun vs H Q E => ∃ (b dx d : Addr) (es : List Rc) (last : Int) (s g : Str) (nms : List Str), vs = [.ref b, .str s, .str g] ∧ BkAt C CB H b dx d (es.map Rc.ent) last ∧ EsOk es last ∧ Txt8 50 s ∧ Txt8 50 g ∧ (isLit g = true → SrOk es nms s) ∧
  (isLit s = true → isLit g = true → ∀ W, Far (adN es) s W → ∀ v H', Ex H H' → Oc es s g W H H' v → Q v H') ∧
  (isLit s = false → ∀ H' x, Ex H H' → H' x = some (.xd [("text", .str s)]) → E (.ref CL) (some x) H') ∧ (isLit s = true → isLit g = false → ∀ H' x, Ex H H' → H' x = some (.xd [("text", .str g)]) → E (.ref CL) (some x) H')
theorem ok_chain (T : Txt P K mg) : FnOk P w K mg base (L2N.CX P w) 14 T.f_chain T.d_chain ["book", "start", "goal"] (spCh T.C_Clause T.C_Book T.C_BadLiteral) := by
  refine T.F_chain.okN sc_chain (fun vs H Q E h => ?_) (fun cdv A outer s H vs Q E hr h => ?_)
  · obtain ⟨b, dx, d, es, last, s, g, nms, rfl, _⟩ := h
    rfl
  · obtain ⟨b, dx, d, es, last, s, g, nms, rfl, B, o, st, gt, ok, yes, no1, no2⟩ := h
    have hu := hr.un
    refine ⟨_, (pss_cons (ps_expr (pe_call (ok_check_literal T) (hr.mono (by decide)) rfl T.g_check_literal T.F_check_literal.kp T.b_check_literal .nil (L2N.passes_call (L2N.takes_of rfl rfl rfl rfl) (fun _ _ _ _ h => h)) (pa_cons (pv 1) pa_nil)))
      (pss_cons (ps_expr (pe_call (ok_check_literal T) (hr.mono (by decide)) rfl T.g_check_literal T.F_check_literal.kp T.b_check_literal .nil (L2N.passes_call (L2N.takes_of rfl rfl rfl rfl) (fun _ _ _ _ h => h)) (pa_cons (pv 2) pa_nil)))
      (pss_cons (ps_set (i := 3) sc_chain.nd rfl (.inl rfl) (pe_call (ok__arrivals T) (hr.mono (by decide)) rfl T.g__arrivals T.F__arrivals.kp T.b__arrivals .nil pass0 (pa_cons (pe_call (ok_all_needs T) (hr.mono (by decide)) rfl T.g_all_needs T.F_all_needs.kp T.b_all_needs .nil pass0 (pa_cons (pv 0) pa_nil)) (pa_cons (pv 1) pa_nil))))
      (pss_cons (ps_if (pt_cmp (pc_dnotin (by exact lt_u1 (k := 13) hu) (pv 2) (pv 3)) (by rfl)) (pss_one (ps_ret pe_non)) pss_nil)
      (pss_cons (ps_set (i := 4) sc_chain.nd rfl (.inl rfl) (pe_lst pa_nil))
      (pss_cons (ps_set (i := 5) sc_chain.nd rfl (.inl rfl) (pe_dget (by exact lt_u1 (k := 13) hu) (pv 3) (pv 2) (fun _ _ => rfl)))
      (pss_cons (ps_while PassesOwn.leaving (pt_cmpR op_notN (pv 5) pe_non (nomark _)) (pss_cons (ps_expr (pe_bm PySem.F.plainAttrs_list PySem.F.slot_list_append PySem.F.type_list_append mt_append (pv 4) (pa_cons (pv 5) pa_nil)))
        (pss_one (ps_set (i := 5) sc_chain.nd rfl (.inl rfl) (pe_dget (by exact lt_u1 (k := 13) hu) (pv 3) (pe_ix ix_tup (pv 5) pe_int (fun _ _ => rfl)) (fun _ _ => rfl))))))
      (pss_one (ps_ret (pe_revL (pv 4))))))))))), ?_⟩
    refine ⟨.str s, rfl, s, rfl, st.1, st.2, fun ls H1 e1 => ?_, fun nl H1 x e1 hx => no1 nl H1 x e1 hx⟩
    refine ⟨.str g, rfl, g, rfl, gt.1, gt.2, fun lg H2 e2 => ?_, fun nl H2 x e2 hx => no2 ls nl H2 x (e1.trans e2) hx⟩
    have ok := ok lg
    refine ⟨.ref b, rfl, b, dx, d, es, last, rfl, B.mono (e1.trans e2), o, fun H3 p e3 np tb _ => ?_⟩
    refine ⟨.str s, rfl, p, s, es, nms, rfl, tb, ls, ok.sn ls, ok.n13, o.row, ok.sub, o.few, fun H4 D A e4 nD ar par far lit => ?_⟩
    dsimp only [gName]
    have e04 := ((e1.trans e2).trans e3).trans e4
    have lA := ar_len far lit ok.n13
    obtain ⟨yes1, yes2⟩ := ch_cut (yes ls lg (wnOf A) far)
    have nd : (A.map (·.1)).Nodup := by rw [← wn_fst]; exact far.nd
    refine q_when (et_B (ev_dnot rfl rfl ar.di)) (fun c H5 e5 => ?_) fun c H5 e5 => ?_
    · have new : g ∉ A.map (·.1) := fun m => by rw [valV_ae, decide_eq_true m] at c; cases c
      refine s_ret ev_c fun H6 e6 => yes1 (fun n m => new ?_) H6 ((e04.trans e5).trans e6)
      unfold wnOf at m
      obtain ⟨y, my, e⟩ := List.mem_map.mp m
      rw [← (Prod.mk.inj e).1]
      exact List.mem_map.mpr ⟨y, my, rfl⟩
    · have old : g ∈ A.map (·.1) := by
        by_cases m : g ∈ A.map (·.1)
        · exact m
        · rw [valV_ae, decide_eq_false m] at c; cases c
      obtain ⟨x0, m0, eg⟩ := List.mem_map.mp old
      have w0 : (g, x0.2.1) ∈ wnOf A := by unfold wnOf; exact List.mem_map.mpr ⟨x0, m0, by rw [eg]⟩
      have ar5 := ar.mono e5
      refine q_asgL (xs := []) (el_lst ea_nil (by decide)) fun bw H6 nbw e6 hbw => ?_
      have ar6 := ar5.mono e6
      have nbw0 : H bw = none := fresh_back (e04.trans e5) nbw
      have getA : ∀ {σ : L2.St} {H0 : Hp} {x : Ae} {ty : TE}, ArAt H0 D A → σ[3]? = some (some (V.ref D)) → x ∈ A → Ev ty σ H0 (.str x.1) → Ev (tDGet (tVar 3) ty) σ H0 (aeV x.2.2) := fun {σ H0 x ty} a h3 m hy H7 e7 Q1 k1 => ⟨_, h3, hy H7 e7 _ fun H8 e8 => ⟨D, _, rfl, .inl ⟨_, .inr x.1, .inl ((a.mono e7).mono e8).di, rfl, (valV_at_ae nd m).symm⟩, k1 H8 e8⟩⟩
      refine q_asg (v := aeV x0.2.2) (getA ar6 rfl m0 (by rw [eg]; exact ev_var rfl)) fun H7 e7 => ?_
      have e07 := ((e04.trans e5).trans e6).trans e7
      refine q_while (fun m σ' H' => ∃ (x : Ae) (Bk : List PLk), σ' = [some (V.ref b), some (.str s), some (.str g), some (.ref D), some (.ref bw), some (aeV x.2.2)] ∧ m = x.2.1 ∧ x ∈ A ∧ Ex H H' ∧ ArAt H' D A ∧ H' bw = some (.lst (lkRefs Bk)) ∧ LksAt H' Bk ∧ chainS es g x.1 (lks Bk.reverse) = true ∧ Bk.length + x.2.1 = x0.2.1 ∧ (∀ y ∈ Bk, isLit y.2.1 = true ∧ isLit y.2.2.2 = true)) x0.2.1
        ⟨x0, [], rfl, rfl, m0, e07, ar6.mono e7, e7 _ _ hbw, (fun y m => nomatch m), decide_eq_true eg, by simp, (fun y m => nomatch m)⟩ ?_
      rintro m σ' H8 ⟨x, Bk, rfl, rfl, mx, e8, ar8, hb8, lk8, ch, len, lits⟩
      have d26 : x0.2.1 ≤ 26 := by have := dist_le par m0; omega
      cases hx : x.2.2 with
      | none =>
        refine ⟨false, et_is (et_test (ev_op (x := .non) (y := .non) (ev_var rfl) ev_c (fun H1 _ Q q => ⟨rfl, q H1 (Ex.refl H1)⟩))) (by simp), fun h => Bool.noConfusion h, fun _ H9 e9 => ?_⟩
        obtain ⟨xs, x0'⟩ := par.root x mx hx
        refine ⟨.ref bw, rfl, bw, _, rfl, sq_of (e9 _ _ hb8), fun r nr => ?_⟩
        have er : Ex H9 (upd H9 r (.lst (lkRefs Bk).reverse)) := Ex.new nr
        rw [xs] at ch
        refine yes2 _ w0 _ r Bk.reverse ((e8.trans e9).trans er) (fresh_back (e8.trans e9) nr) (by rw [upd_same]; unfold lkRefs; rw [List.map_reverse]) (fun y m => er _ _ (e9 _ _ (lk8 y (List.mem_reverse.mp m)))) (by rw [List.length_reverse]; omega) d26 ch fun y m => lits y (List.mem_reverse.mp m)
      | some pl =>
        obtain ⟨p1, p2, y, my, ey, en⟩ := par.par x mx pl hx
        refine ⟨true, et_is (et_test (ev_op (x := .ref pl.1) (y := .non) (ev_var rfl) ev_c (fun H1 _ Q q => ⟨rfl, q H1 (Ex.refl H1)⟩))) (by simp), fun _ H9 e9 => ?_, fun h => Bool.noConfusion h⟩
        have ar9 := ar8.mono e9
        have tu9 := ar9.tu x mx pl hx
        refine ⟨fun σ' H' => ∃ Bk' : List PLk, σ' = [some (V.ref b), some (.str s), some (.str g), some (.ref D), some (.ref bw), some (aeV y.2.2)] ∧ Ex H H' ∧ ArAt H' D A ∧ H' bw = some (.lst (lkRefs Bk')) ∧ LksAt H' Bk' ∧ chainS es g y.1 (lks Bk'.reverse) = true ∧ Bk'.length + y.2.1 = x0.2.1 ∧ (∀ y ∈ Bk', isLit y.2.1 = true ∧ isLit y.2.2.2 = true), fun σ2 H2 ⟨Bk', e, h1, h2, h3, h4, h5, h6, h7⟩ => ⟨y.2.1, by omega, y, Bk', e, rfl, my, h1, h2, h3, h4, h5, h6, h7⟩, ?_⟩
        refine q_app (K := K) (v := .ref pl.1) (e9 _ _ hb8) (ev_var rfl) (ev_var rfl) (by unfold lkRefs; rw [List.length_map]; omega) fun Ha ea => ?_
        have toW : ∀ {c : Addr} {o : HO}, Ha c = some o → (∀ xs, o ≠ .lst xs) → (upd Ha bw (.lst (lkRefs Bk ++ [.ref pl.1]))) c = some o := fun {c o} h no => by
          rw [upd_ne (fun e => by rw [e, ea _ _ (e9 _ _ hb8)] at h; exact no _ (Option.some.inj h).symm)]; exact h
        have hbA : (upd Ha bw (.lst (lkRefs Bk ++ [.ref pl.1]))) bw = some (.lst (lkRefs (Bk ++ [pl]))) := by rw [upd_same]; unfold lkRefs; rw [List.map_append]; rfl
        have exA : Ex H (upd Ha bw (.lst (lkRefs Bk ++ [.ref pl.1]))) := ((e8.trans e9).trans ea).mut nbw0
        have arA : ArAt (upd Ha bw (.lst (lkRefs Bk ++ [.ref pl.1]))) D A := ⟨toW (ea _ _ ar9.di) (by simp), fun z m q h => toW (ea _ _ (ar9.tu z m q h)) (by simp)⟩
        have lkA : LksAt (upd Ha bw (.lst (lkRefs Bk ++ [.ref pl.1]))) (Bk ++ [pl]) := fun z m => by
          rcases List.mem_append.mp m with m | m
          · exact toW (ea _ _ (e9 _ _ (lk8 z m))) (by simp)
          · rw [List.mem_singleton.mp m]; exact toW (ea _ _ tu9) (by simp)
        have tuA := toW (ea _ _ tu9) (by simp)
        generalize upd Ha bw (.lst (lkRefs Bk ++ [.ref pl.1])) = Hb at hbA exA arA lkA tuA
        have chA : chainS es g y.1 (lks (Bk ++ [pl]).reverse) = true := by
          have e : lks (Bk ++ [pl]).reverse = pl.2 :: lks Bk.reverse := by rw [List.reverse_append]; rfl
          rw [e]
          show (decide (pl.2.1 = y.1) && (decide ((pl.2.2.1, pl.2.2.2) ∈ needsOf es y.1) && chainS es g pl.2.2.2 (lks Bk.reverse))) = true
          rw [ey, p1, ch, ← p1, decide_eq_true p2, decide_eq_true rfl]; rfl
        have ev0 : ∀ {H0 : Hp}, Ex Hb H0 → Ev (tOp (rIxT K) (tVar 5) (tC (.int 0))) [some (V.ref b), some (.str s), some (.str g), some (.ref D), some (.ref bw), some (aeV (some pl))] H0 (.str y.1) := fun e => ev_is (v := .str pl.2.1) (ev_ixU (ev_var rfl) (e _ _ tuA) rfl) (by rw [ey])
        refine s_asg (v := aeV y.2.2) (getA arA rfl my (ev0 (Ex.refl Hb))) fun Hc ec => ⟨Bk ++ [pl], rfl, exA.trans ec, arA.mono ec, ec _ _ hbA, lkA.mono ec, chA, by rw [List.length_append, List.length_singleton]; omega, fun z m => ?_⟩
        rcases List.mem_append.mp m with m | m
        · exact lits z m
        · rw [List.mem_singleton.mp m]
          exact ⟨by rw [← ey]; exact (lit y my).1, by rw [p1]; exact (lit x mx).1⟩
end
section
open Evl
theorem adL_snoc {es : List Rc} {z : Str} {i : Nat} (lt : i < es.length) : adL (es.take (i + 1)) z = adL (es.take i) z ++ (if z ∈ es[i].R then adL1 es[i].R z else []) := by
  have tk : es.take (i + 1) = es.take i ++ [es[i]] := by rw [List.take_add_one, List.getElem?_eq_getElem lt]; rfl
  rw [tk]
  unfold adL
  rw [List.flatMap_append, List.flatMap_cons, List.flatMap_nil, List.append_nil]
theorem adL1_snoc {R : List Str} {z : Str} {j : Nat} (lj : j < R.length) : adL1 (R.take (j + 1)) z = adL1 (R.take j) z ++ (if R[j] ≠ z then [flip R[j]] else []) := by
  have tj : R.take (j + 1) = R.take j ++ [R[j]] := by rw [List.take_add_one, List.getElem?_eq_getElem lj]; rfl
  rw [tj]
  unfold adL1
  rw [List.filter_append, List.map_append]
  congr 1
  by_cases c : R[j] = z
  · rw [if_neg (by simp [c]), List.filter_cons_of_neg (by simp [c])]
    rfl
  · rw [if_pos c, List.filter_cons_of_pos (by simp [c])]
    rfl
end
section
open Evl
theorem lit_two {es : List Rc} {nms N : List Str} (rows : ∀ e ∈ es, RowD e.R e.D) (sub : ∀ e ∈ es, ∀ z ∈ e.R, bare z ∈ nms) (od : Ord (allNames ((es.map Rc.ent).map (·.2))) N) {z : Str} (hz : z ∈ N.flatMap twoOf) : isLit z = true ∧ bare z ∈ nms := by
  obtain ⟨n, hn, h⟩ := List.mem_flatMap.mp hz
  have m := (od.mem n).mp hn
  rw [allNames_ent, List.mem_flatMap] at m
  obtain ⟨e, me, hm⟩ := m
  obtain ⟨y, hy, rfl⟩ := List.mem_map.mp hm
  have hyR := (rowD (rows e me) y).mp hy
  have nm : isName (bare y) = true := rowLit rows me hyR
  have h : z ∈ [bare y, "-" ++ bare y] := h
  simp only [List.mem_cons, List.not_mem_nil, or_false] at h
  rcases h with rfl | rfl
  · exact ⟨name_lit nm, by rw [bare_no (name_dash nm)]; exact sub e me y hyR⟩
  · exact ⟨minus_lit nm, by rw [bare_minus]; exact sub e me y hyR⟩
/-- all_reached(book): from each literal what it reaches -/
def RchT (es : List Rc) (nms : List Str) (H : Hp) (d : Addr) (N : List Str) : Prop := ∃ kvs : List (Key × V), H d = some (.dK kvs) ∧ ∀ z ∈ N.flatMap twoOf, ∃ (a : Addr) (W : List Wn), valV kvs (.inr z) = some (.ref a) ∧ H a = some (.lst ((W.map (·.1)).map V.str)) ∧ Far (adN es) z W ∧ ∀ x ∈ W, isLit x.1 = true ∧ bare x.1 ∈ nms
theorem RchT.mono {es : List Rc} {nms : List Str} {H H' : Hp} {d : Addr} {N : List Str} (t : RchT es nms H d N) (e : Ex H H') : RchT es nms H' d N := let ⟨kvs, h1, h2⟩ := t; ⟨kvs, e _ _ h1, fun z m => let ⟨a, W, h3, h4, h5⟩ := h2 z m; ⟨a, W, h3, e _ _ h4, h5⟩⟩
def spAllR (C CB : Addr) : Sp := fun vs H Q _ => ∃ (b dx d : Addr) (es : List Rc) (last : Int) (nms : List Str), vs = [.ref b] ∧ BkAt C CB H b dx d (es.map Rc.ent) last ∧ EsOk es last ∧ nms.length ≤ 13 ∧ (∀ e ∈ es, ∀ z ∈ e.R, bare z ∈ nms) ∧ ∀ H' p N, Ex H H' → Ord (allNames ((es.map Rc.ent).map (·.2))) N → RchT es nms H' p N → Q (.ref p) H'
theorem ok_all_reached (T : Txt P K mg) : FnOk P w K mg base CX0 14 T.f_all_reached T.d_all_reached ["book"] (spAllR T.C_Clause T.C_Book) := by
  refine T.F_all_reached.ok sc_all_reached (fun vs H Q E h => ?_) (fun cdv A outer s H vs Q E hr h => ?_)
  · obtain ⟨b, dx, d, es, last, nms, rfl, _⟩ := h
    rfl
  · obtain ⟨b, dx, d, es, last, nms, rfl, B, o, n13, sub, q⟩ := h
    refine ⟨_, (pss_cons (ps_set (i := 1) sc_all_reached.nd rfl (.inr rfl) (pe_call (ok_all_needs T) (hr.mono (by decide)) rfl T.g_all_needs T.F_all_needs.kp T.b_all_needs .nil pass0 (pa_cons (pv 0) pa_nil)))
      (pss_one (ps_ret (pe_lock (pe_dc (own := [("literal", 2)]) (g := gName 2) (tk := tVar 2) (tv := tCB (fun xs H Q => ∃ (a : Addr) (kvs : List (Key × V)), xs = [.ref a] ∧ Rd H a (.dK kvs) ∧ ∀ p, H p = none → Q (.ref p) (upd H p (.lst (kvs.map fun kv => kV kv.1)))) (tCons (tCall spArr [] E0 (tCons (tVar 1) (tCons (tVar 2) tNil))) tNil)) (by rfl) sc_all_reached.nd (pi_keys (pv 1)) (blkOk_by (own := [("literal", 2)]) (N := N_all_reached) (sc := defScope s_all_reached) (by decide +kernel)) (fun _ _ _ _ _ => pg_name (i := 2) sc_all_reached.nd rfl (Or.inl rfl)) (fun _ _ _ _ _ => pts_nil) (fun _ _ _ _ _ => (pv 2)) (fun _ _ _ _ _ => (pe_callTy (call_listD rfl) (by rfl) T.n_list (by decide +kernel) (pa_cons (pe_call (ok__arrivals T) (hr.mono (by decide)) rfl T.g__arrivals T.F__arrivals.kp T.b__arrivals .nil pass0 (pa_cons (pv 1) (pa_cons (pv 2) pa_nil))) pa_nil)))))))), ?_⟩
    refine ⟨.ref b, rfl, b, dx, d, es, last, rfl, B, o, fun H1 p e1 np tb tk => ?_⟩
    dsimp only [gName]
    obtain ⟨kvs, N, hp, od, len, ks1, ks2⟩ := tk
    have of2 : ∀ z ∈ N.flatMap twoOf, isLit z = true ∧ bare z ∈ nms := fun z hz => lit_two o.row sub od hz
    refine ⟨p, _, hp, True.intro, fun oo => ?_⟩
    have tz : Tbl es (upd H1 p (.frz oo (.dK kvs))) p := by
      obtain ⟨kvs0, rd, all0⟩ := tb
      have e0 : kvs0 = kvs := by
        rcases rd with h | ⟨_, h⟩
        · rw [h] at hp; injection hp with h; injection h
        · rw [h] at hp; cases hp
      subst e0
      exact ⟨kvs0, .inr ⟨oo, upd_same⟩, fun z => (all0 z).imp (fun ⟨a, h3, h4⟩ => ⟨a, h3, h4.off hp (by simp) (by simp)⟩) id⟩
    have hz : (upd H1 p (.frz oo (.dK kvs))) p = some (.frz oo (.dK kvs)) := upd_same
    have ez : ∀ c u, c ≠ p → H1 c = some u → (upd H1 p (.frz oo (.dK kvs))) c = some u := fun c u n h => by rw [upd_ne n]; exact h
    generalize upd H1 p (.frz oo (.dK kvs)) = Hz at tz hz ez
    refine ⟨_, rfl, p, oo, rfl, .inl ⟨kvs, hz, fun D nD => ?_⟩⟩
    have Dp : D ≠ p := fun e => by rw [e, hz] at nD; cases nD
    refine dc_it (walk_keys (d := p) (o := oo) (kvs := kvs)) (fun i H' => Ex Hz H' ∧ ∃ ks : List (Key × V), H' D = some (.dK ks) ∧ ks.length ≤ i ∧ ∀ z, (∃ kv ∈ kvs.take i, kv.1 = .inr z) → ∃ (a : Addr) (W : List Wn), valV ks (.inr z) = some (.ref a) ∧ H' a = some (.lst ((W.map (·.1)).map V.str)) ∧ Far (adN es) z W ∧ ∀ x ∈ W, isLit x.1 = true ∧ bare x.1 ∈ nms) ⟨Ex.new nD, [], upd_same, Nat.le_refl _, fun z ⟨kv, m, _⟩ => (by rw [List.take_zero] at m; cases m)⟩ (fun i H' _ h => h.1 _ _ hz) ?_ ?_
    · rintro i x H2 H3 hi ⟨e2, ks, h2, l2, all⟩ ⟨rfl, k, v, hk, rfl⟩
      obtain ⟨z, mz, ekz⟩ := ks1 _ (List.mem_of_getElem? hk)
      have ekz : k = .inr z := ekz
      subst ekz
      obtain ⟨lz, nz⟩ := of2 z mz
      refine ⟨rfl, ?_⟩
      unfold tYes
      dsimp only
      rw [if_pos rfl]
      refine ⟨_, rfl, _, rfl, _, rfl, p, z, es, nms, rfl, tz.mono e2, lz, nz, n13, o.row, sub, o.few, fun H4 D2 A e4 nD2 ar par far lit => ⟨D2, _, rfl, .inl ar.di, fun r nr => ?_⟩⟩
      have h4 := e4 _ _ h2
      have er : Ex H4 (upd H4 r (.lst ((A.map aeK).map fun kv => kV kv.1))) := Ex.new nr
      have hr : (upd H4 r (.lst ((A.map aeK).map fun kv => kV kv.1))) r = some (.lst ((A.map (·.1)).map V.str)) := by rw [upd_same, List.map_map, List.map_map]; rfl
      generalize upd H4 r (.lst ((A.map aeK).map fun kv => kV kv.1)) = H5 at er hr
      have h5 := er _ _ h4
      have rD : r ≠ D := fun e => by rw [e, h5] at hr; cases hr
      refine ⟨ks, .inr z, rfl, h5, sz_lt (by omega), ((e2.trans e4).trans er).mut nD, _, upd_same, Nat.le_trans (length_putK _ _ _) (by omega), fun y hy => ?_⟩
      rw [valV_put]
      by_cases c : y = z
      · subst c
        refine ⟨r, wnOf A, by rw [if_pos rfl], by rw [upd_ne rD, wn_fst]; exact hr, far, fun x m => ?_⟩
        unfold wnOf at m
        obtain ⟨w, mw, rfl⟩ := List.mem_map.mp m
        exact lit w mw
      · have ne : ¬ ((.inr y : Key) = .inr z) := fun e => c (Sum.inr.inj e)
        rw [if_neg ne]
        obtain ⟨kv, m, ek⟩ := hy
        rw [List.take_add_one, hk] at m
        rcases List.mem_append.mp m with m | m
        · obtain ⟨a, W, w1, w2, w3⟩ := all y ⟨kv, m, ek⟩
          have aD : a ≠ D := fun e => by rw [e, h2] at w2; cases w2
          exact ⟨a, W, w1, by rw [upd_ne aD]; exact er _ _ (e4 _ _ w2), w3⟩
        · have m : kv = (.inr z, v) := by simpa using m
          rw [m] at ek
          exact absurd ek.symm ne
    · rintro H3 ⟨e3, ks, h3, l3, all⟩
      have hp3 := e3 _ _ hz
      refine ⟨hp3, q (upd H3 p (.dK kvs)) D N (fun c u hc => ?_) od ⟨ks, by rw [upd_ne Dp]; exact h3, fun z mz => ?_⟩⟩
      · have cp : c ≠ p := ne_of_none hc np
        rw [upd_ne cp]
        exact e3 _ _ (ez _ _ cp (e1 _ _ hc))
      · obtain ⟨kv, m, ek⟩ := ks2 z mz
        obtain ⟨a, W, w1, w2, w3⟩ := all z ⟨kv, by rw [List.take_length]; exact m, ek⟩
        have ap : a ≠ p := fun e => by rw [e, hp3] at w2; cases w2
        exact ⟨a, W, w1, by rw [upd_ne ap]; exact w2, w3⟩
end
section
open Evl
/-- check_name(text) -/
def spName (C : Addr) : Sp := fun vs H Q E => ∃ z : Str, vs = [.str z] ∧ z.cps.size ≤ 50 ∧ (∀ c ∈ z.cps.toList, c < 128) ∧ (isName z = true → ∀ H', Ex H H' → Q .non H') ∧
  (isName z = false → ∀ H' d, Ex H H' → H' d = some (.xd [("text", .str z)]) → E (.ref C) (some d) H')
theorem ok_check_name (T : Txt P K mg) : FnOk P w K mg base (L2N.CX P w) 3 T.f_check_name T.d_check_name ["text"] (spName T.C_BadName) := by
  refine T.F_check_name.okN sc_check_name (fun vs H Q E h => ?_) (fun cdv A outer s H vs Q E hr h => ?_)
  · obtain ⟨z, rfl, _⟩ := h
    rfl
  · obtain ⟨z, rfl, hz, hc, q1, q2⟩ := h
    refine ⟨_, (pss_one (ps_if (pt_not (pt_val (pe_call (ok_is_name T) (hr.mono (by decide)) rfl T.g_is_name T.F_is_name.kp T.b_is_name .nil pass0 (pa_cons (pv 0) pa_nil)))) (pss_one (L2N.ps_raise rfl (L2N.takes_of rfl rfl rfl rfl) (pmk1 T.E_BadName rfl fld_text T.o_BadName hr (pa_cons (pv 0) pa_nil) rfl (by decide)))) pss_nil)), ?_⟩
    refine ⟨_, rfl, z, rfl, by omega, fun H1 e1 => ⟨_, rfl, ?_⟩⟩
    cases hl : isName z with
    | true =>
      refine iteF ?_
      exact q1 hl H1 e1
    | false =>
      refine iteT ?_
      refine ⟨_, rfl, _, rfl, fun u hu => ?_, fun d hd => q2 hl _ d (e1.trans (Evl.Ex.new hd)) upd_same⟩
      obtain ⟨t, rfl⟩ := hu
      exact msg_cr fld_text (by decide) (repr_le hz hc)
theorem mkRg (T : Txt P K mg) : Mk K T.C_Ring T.f_Ring_init := ⟨T.mi_Ring, T.m_Ring_init, T.i_Ring_init, T.kc_Ring⟩
def rgF (z : Str) (t b : Addr) : List (Str × V) := [("name", .str z), ("there", .ref t), ("back", .ref b)]
/-- a ring at r -/
structure RgAt (C : Addr) (H : Hp) (r : Addr) (z : Str) (ps qs : List PLk) : Prop where
  at_ : ∃ dx t b, H r = some (.ins C dx (rgF z t b)) ∧ H t = some (.tup (lkRefs ps)) ∧ H b = some (.tup (lkRefs qs))
  lp : LksAt H ps
  lq : LksAt H qs
theorem RgAt.mono {C : Addr} {H H' : Hp} {r : Addr} {z : Str} {ps qs : List PLk} (g : RgAt C H r z ps qs) (e : Ex H H') : RgAt C H' r z ps qs := let ⟨⟨dx, t, b, h1, h2, h3⟩, lp, lq⟩ := g; ⟨⟨dx, t, b, e _ _ h1, e _ _ h2, e _ _ h3⟩, lp.mono e, lq.mono e⟩
/-- a list or a tuple, no third thing -/
def Lt2 (H : Hp) (a : Addr) (xs : List V) : Prop := H a = some (.lst xs) ∨ H a = some (.tup xs)
theorem Lt2.mono {H H' : Hp} {a : Addr} {xs : List V} (h : Lt2 H a xs) (e : Ex H H') : Lt2 H' a xs := h.imp (fun h => e _ _ h) fun h => e _ _ h
theorem tup_lt {σ : L2.St} {H : Hp} {Q : VK} {i : Nat} {a : Addr} {xs : List V} (hi : σ[i]? = some (some (V.ref a))) (h : Lt2 H a xs) (k : ∀ p H1, Ex H H1 → H1 p = some (.tup xs) → Q (.ref p) H1) :
    tCB (fun xs H Q => ∃ p ys, xs = [V.ref p] ∧ ((SqL K H p ys ∧ ∀ l, H l = none → Q (.ref l) (upd H l (.tup ys))) ∨ (SqT K H p ys ∧ Q (.ref p) H))) (tCons (tVar i) tNil) σ H Q :=
  ⟨_, hi, a, xs, rfl, h.elim (fun h => .inl ⟨sq_of h, fun l nl => k l _ (Ex.new nl) upd_same⟩) (fun h => .inr ⟨st_of h, k a H (Ex.refl H) h⟩)⟩
theorem q_fldR {ta tv : TE} {f : Str} {tz : TS} {D : Ends} {σ : L2.St} {H : Hp} (h : tv σ H fun y H1 => ta σ H1 fun x H2 => ∃ a C dx fs, x = .ref a ∧ H2 a = some (.ins C dx fs) ∧ Cls K C ∧ NoAttr K C f ∧ fs.length < 1000 ∧ tz D σ (upd H2 a (.ins C dx (putF f y fs)))) : tSeq (sFld K ta tv f) tz D σ H := h
theorem s_fldR {ta tv : TE} {f : Str} {D : Ends} {σ : L2.St} {H : Hp} (h : tv σ H fun y H1 => ta σ H1 fun x H2 => ∃ a C dx fs, x = .ref a ∧ H2 a = some (.ins C dx fs) ∧ Cls K C ∧ NoAttr K C f ∧ fs.length < 1000 ∧ D.nx σ (upd H2 a (.ins C dx (putF f y fs)))) : sFld K ta tv f D σ H := h
theorem lt_ne {H : Hp} {a x C dx : Addr} {xs : List V} {fs : List (Str × V)} (h : Lt2 H a xs) (hx : H x = some (.ins C dx fs)) : a ≠ x := fun e => by
  rcases h with h | h <;> (rw [e, hx] at h; cases h)
/-- Ring.__init__(self, name, there, back) -/
def spRgI (C CB : Addr) : Sp := fun vs H Q E => ∃ (x dx : Addr) (z : Str) (a b : Addr) (ps qs : List PLk), vs = [.ref x, .str z, .ref a, .ref b] ∧ H x = some (.ins C dx []) ∧ Txt8 50 z ∧ Lt2 H a (lkRefs ps) ∧ Lt2 H b (lkRefs qs) ∧ LksAt H ps ∧ LksAt H qs ∧
  (isName z = false → ∀ H' d, Ex H H' → H' d = some (.xd [("text", .str z)]) → E (.ref CB) (some d) H') ∧ (isName z = true → ∀ H', (∀ c o, c ≠ x → H c = some o → H' c = some o) → RgAt C H' x z ps qs → Q .non H')
theorem ok_Ring_init (T : Txt P K mg) : FnOk P w K mg base (L2N.CX P w) 4 T.f_Ring_init T.d_Ring_init ["self", "name", "there", "back"] (spRgI T.C_Ring T.C_BadName) := by
  refine T.F_Ring_init.okN sc_Ring_init (fun vs H Q E h => ?_) (fun cdv A outer s H vs Q E hr h => ?_)
  · obtain ⟨x, dx, z, a, b, ps, qs, rfl, _⟩ := h
    rfl
  · obtain ⟨x, dx, z, a, b, ps, qs, rfl, hx, tz, ha, hb, lp, lq, bad, q⟩ := h
    refine ⟨_, (pss_cons (ps_expr (pe_call (ok_check_name T) (hr.mono (by decide)) rfl T.g_check_name T.F_check_name.kp T.b_check_name .nil (L2N.passes_call (L2N.takes_of rfl rfl rfl rfl) (fun _ _ _ _ h => h)) (pa_cons (pv 1) pa_nil)))
      (pss_cons (ps_fld (pv 0) (pv 1) rfl)
      (pss_cons (ps_fld (pv 0) (pe_callTy call_tuple_of (by rfl) T.n_tuple (by decide +kernel) (pa_cons (pv 2) pa_nil)) rfl)
      (pss_one (ps_fld (pv 0) (pe_callTy call_tuple_of (by rfl) T.n_tuple (by decide +kernel) (pa_cons (pv 3) pa_nil)) rfl))))), ?_⟩
    refine ⟨.str z, rfl, z, rfl, tz.1, tz.2, fun nz H1 e1 => ?_, fun nl H1 d e1 hd => bad nl H1 d e1 hd⟩
    have hx1 := e1 _ _ hx
    refine ⟨_, rfl, .ref x, rfl, x, _, dx, _, rfl, hx1, T.cl_Ring, T.na_Ring_name, (by show 0 < 1000; decide), ?_⟩
    have ax := lt_ne ha hx
    have bx := lt_ne hb hx
    have ha2 : Lt2 (upd H1 x (.ins T.C_Ring dx [("name", .str z)])) a (lkRefs ps) := (ha.mono e1).imp (fun h => by rw [upd_ne ax]; exact h) fun h => by rw [upd_ne ax]; exact h
    have k2 : ∀ c o, c ≠ x → H c = some o → (upd H1 x (.ins T.C_Ring dx [("name", .str z)])) c = some o := fun c o n h => by rw [upd_ne n]; exact e1 _ _ h
    have hx2 : (upd H1 x (.ins T.C_Ring dx [("name", .str z)])) x = some (.ins T.C_Ring dx [("name", .str z)]) := upd_same
    dsimp only
    refine q_fldR (K := K) (tup_lt rfl ha2 fun t H3 e3 ht => ?_)
    refine ⟨.ref x, rfl, x, _, dx, _, rfl, e3 _ _ hx2, T.cl_Ring, T.na_Ring_there, (by show 1 < 1000; decide), ?_⟩
    have k3 : ∀ c o, c ≠ x → H c = some o → H3 c = some o := fun c o n h => e3 _ _ (k2 c o n h)
    have tx : t ≠ x := fun e => by rw [e, e3 _ _ hx2] at ht; cases ht
    have hb3 : Lt2 (upd H3 x (.ins T.C_Ring dx [("name", .str z), ("there", .ref t)])) b (lkRefs qs) := hb.imp (fun h => by rw [upd_ne bx]; exact k3 _ _ bx h) fun h => by rw [upd_ne bx]; exact k3 _ _ bx h
    refine s_fldR (K := K) (tup_lt rfl hb3 fun u H4 e4 hu => ?_)
    have hx4 := e4 x _ upd_same
    refine ⟨.ref x, rfl, x, _, dx, _, rfl, hx4, T.cl_Ring, T.na_Ring_back, (by show 2 < 1000; decide), ?_⟩
    have ux : u ≠ x := fun e => by rw [e, hx4] at hu; cases hu
    have k4 : ∀ c o, c ≠ x → H c = some o → (upd H4 x (.ins T.C_Ring dx (rgF z t u))) c = some o := fun c o n h => by
      rw [upd_ne n]
      exact e4 _ _ (by rw [upd_ne n]; exact k3 _ _ n h)
    refine q nz _ k4 ⟨⟨dx, t, u, upd_same, by rw [upd_ne tx]; exact e4 _ _ (by rw [upd_ne tx]; exact ht), by rw [upd_ne ux]; exact hu⟩, fun y m => k4 _ _ (fun e => ?_) (lp y m), fun y m => k4 _ _ (fun e => ?_) (lq y m)⟩
    · have z := lp y m; rw [e, hx] at z; cases z
    · have z := lq y m; rw [e, hx] at z; cases z
/-- Ring.bars(self, book) -/
def spBars (C CB CR : Addr) : Sp := fun vs H Q _ => ∃ (r b dx d : Addr) (es : List Rc) (last : Int) (z : Str) (ps qs : List PLk), vs = [.ref r, .ref b] ∧ RgAt CR H r z ps qs ∧ BkAt C CB H b dx d (es.map Rc.ent) last ∧ EsOk es last ∧ isName z = true ∧ (∀ x ∈ ps, Txt8 100 x.2.2.2) ∧ (∀ x ∈ qs, Txt8 100 x.2.2.2) ∧
  ∀ H', Ex H H' → Q (.bl (chainS es (flip z) z (lks ps) && chainS es z (flip z) (lks qs))) H'
theorem ev_chS {C CB CL : Addr} {σ : L2.St} {H : Hp} {tb t1 t2 t3 : TE} {b dx d p : Addr} {es : List Rc} {last : Int} {s g : Str} {ps : List PLk} (h0 : Ev tb σ H (.ref b)) (h1 : Ev t1 σ H (.str s)) (h2 : Ev t2 σ H (.str g)) (h3 : Ev t3 σ H (.ref p)) (B : BkAt C CB H b dx d (es.map Rc.ent) last) (o : EsOk es last) (hp : H p = some (.tup (lkRefs ps))) (lk : LksAt H ps) (tx : ∀ x ∈ ps, Txt8 100 x.2.2.2) (ls : isLit s = true) (lg : isLit g = true) :
    Ev (tCall (spChain K C CB CL) [] E0 (tCons tb (tCons t1 (tCons t2 (tCons t3 tNil))))) σ H (.bl (chainS es g s (lks ps))) :=
  ev_call (ea_cons h0 (ea_cons h1 (ea_cons h2 (ea_cons h3 ea_nil)))) fun H1 e1 Q q E => ⟨b, dx, d, p, es, last, s, g, ps, rfl, B.mono e1, o, .inr (st_of (e1 _ _ hp)), lk.mono e1, tx, (lit_txt ls).mono (by decide), (lit_txt lg).mono (by decide), fun _ _ => q, fun nl => absurd (ls.symm.trans nl) (by simp), fun _ nl => absurd (lg.symm.trans nl) (by simp)⟩
theorem ok_Ring_bars (T : Txt P K mg) : FnOk P w K mg base CX0 14 T.f_Ring_bars T.d_Ring_bars ["self", "book"] (spBars T.C_Clause T.C_Book T.C_Ring) := by
  refine T.F_Ring_bars.ok sc_Ring_bars (fun vs H Q E h => ?_) (fun cdv A outer s H vs Q E hr h => ?_)
  · obtain ⟨r, b, dx, d, es, last, z, ps, qs, rfl, _⟩ := h
    rfl
  · obtain ⟨r, b, dx, d, es, last, z, ps, qs, rfl, R, B, o, nz, tp, tq, q⟩ := h
    refine ⟨_, (pss_cons (ps_set (i := 2) sc_Ring_bars.nd rfl (.inl rfl) (pe_call (ok_negated T) (hr.mono (by decide)) rfl T.g_negated T.F_negated.kp T.b_negated .nil passN0 (pa_cons (pe_fld (pv 0) rfl) pa_nil)))
      (pss_cons (ps_if (pt_not (pt_val (pe_call (ok_is_chain T) (hr.mono (by decide)) rfl T.g_is_chain T.F_is_chain.kp T.b_is_chain .nil passN0 (pa_cons (pv 1) (pa_cons (pe_fld (pv 0) rfl) (pa_cons (pv 2) (pa_cons (pe_fld (pv 0) rfl) pa_nil))))))) (pss_one (ps_ret pe_bl)) pss_nil)
      (pss_one (ps_ret (pe_call (ok_is_chain T) (hr.mono (by decide)) rfl T.g_is_chain T.F_is_chain.kp T.b_is_chain .nil passN0 (pa_cons (pv 1) (pa_cons (pv 2) (pa_cons (pe_fld (pv 0) rfl) (pa_cons (pe_fld (pv 0) rfl) pa_nil))))))))), ?_⟩
    have lz := name_lit nz
    have lf := flip_lit lz
    obtain ⟨rdx, t, u, hr0, ht, hu⟩ := R.at_
    refine q_asg (v := .str (flip z)) (ev_call (ea_cons (ev_fld (ev_var rfl) hr0 T.cl_Ring T.na_Ring_name rfl) ea_nil) fun H1 e1 Q q E => ⟨z, rfl, Nat.le_trans (lit_txt lz).1 (by decide), (lit_txt lz).2, fun _ => q, fun nl => absurd (lz.symm.trans nl) (by simp)⟩) fun H1 e1 => ?_
    have R1 := R.mono e1
    refine q_when (b := !chainS es (flip z) z (lks ps)) (et_not (et_B (ev_chS (ev_var rfl) (ev_fld (ev_var rfl) (e1 _ _ hr0) T.cl_Ring T.na_Ring_name rfl) (ev_var rfl) (ev_fld (ev_var rfl) (e1 _ _ hr0) T.cl_Ring T.na_Ring_there rfl) (B.mono e1) o (e1 _ _ ht) R1.lp tp lz lf))) (fun c H2 e2 => ?_) fun c H2 e2 => ?_
    · have c : chainS es (flip z) z (lks ps) = false := by simpa using c
      refine s_ret ev_c fun H3 e3 => ?_
      have y := q H3 ((e1.trans e2).trans e3)
      rw [c] at y
      exact y
    · have c : chainS es (flip z) z (lks ps) = true := by simpa using c
      have e12 := e1.trans e2
      refine s_ret (ev_chS (ev_var rfl) (ev_var rfl) (ev_fld (ev_var rfl) (e12 _ _ hr0) T.cl_Ring T.na_Ring_name rfl) (ev_fld (ev_var rfl) (e12 _ _ hr0) T.cl_Ring T.na_Ring_back rfl) (B.mono e12) o (e12 _ _ hu) (R.mono e12).lq tq lf lz) fun H3 e3 => ?_
      have y := q H3 (e12.trans e3)
      rw [c] at y
      exact y
end
section
open Evl
theorem asc_eq : ∀ {l m : List Int}, l.Pairwise (· < ·) → m.Pairwise (· < ·) → (∀ k, k ∈ l ↔ k ∈ m) → l = m
  | [], [], _, _, _ => rfl
  | [], y :: m, _, _, h => absurd ((h y).mpr List.mem_cons_self) (by simp)
  | x :: l, [], _, _, h => absurd ((h x).mp List.mem_cons_self) (by simp)
  | x :: l, y :: m, p, q, h => by
    obtain ⟨p1, p2⟩ := List.pairwise_cons.mp p
    obtain ⟨q1, q2⟩ := List.pairwise_cons.mp q
    have e : x = y := by
      rcases List.mem_cons.mp ((h x).mp List.mem_cons_self) with e | e
      · exact e
      · rcases List.mem_cons.mp ((h y).mpr List.mem_cons_self) with e2 | e2
        · exact e2.symm
        · have a1 := q1 _ e
          have a2 := p1 _ e2
          omega
    subst e
    rw [asc_eq p2 q2 fun k => ?_]
    refine ⟨fun hk => ?_, fun hk => ?_⟩
    · rcases List.mem_cons.mp ((h k).mp (List.mem_cons_of_mem _ hk)) with e | e
      · have := p1 _ hk; omega
      · exact e
    · rcases List.mem_cons.mp ((h k).mpr (List.mem_cons_of_mem _ hk)) with e | e
      · have := q1 _ hk; omega
      · exact e
/-- the tuple of two tuples -/
theorem cat_tups {ta tb : TE} {σ : L2.St} {H : Hp} {Q : VK} {t u : Addr} {xs ys : List V} (h1 : Ev ta σ H (.ref t)) (h2 : Ev tb σ H (.ref u)) (ht : H t = some (.tup xs)) (hu : H u = some (.tup ys)) (len : xs.length + ys.length ≤ 90000) (k : ∀ p H1, Ex H H1 → H1 p = some (.tup (xs ++ ys)) → Q (.ref p) H1) : tOp (rCatA K) ta tb σ H Q :=
  h1 H (Ex.refl H) _ fun H1 e1 => h2 H1 e1 _ fun H2 e2 => ⟨t, u, xs, ys, rfl, rfl, st_of ((e1.trans e2) _ _ ht), st_of ((e1.trans e2) _ _ hu), Nat.le_of_lt (sz_lt (by omega)), fun z => k u H2 (e1.trans e2) (by rw [z]; exact (e1.trans e2) _ _ hu),
    fun _ z => k t H2 (e1.trans e2) (by rw [z, List.append_nil]; exact (e1.trans e2) _ _ ht), fun _ _ p np => k p _ ((e1.trans e2).trans (Ex.new np)) upd_same⟩
/-- the numbers of links -/
def numsL (ps : List PLk) : List Int := ps.map fun x => x.2.2.1
theorem el_nums {ta tb : TE} {H : Hp} {r t u : Addr} {ps qs : List PLk} (h1 : Ev ta [some (V.ref r), none] H (.ref t)) (h2 : Ev tb [some (V.ref r), none] H (.ref u)) (ht : H t = some (.tup (lkRefs ps))) (hu : H u = some (.tup (lkRefs qs))) (lp : LksAt H ps) (lq : LksAt H qs) (len : ps.length + qs.length ≤ 200) :
    EvL (tLc (iTup K (tOp (rCatA K) ta tb)) (gName 1) tYes (tOp (rIxT K) (tVar 1) (tC (.int 1))) [1]) [some (V.ref r), none] H ((numsL (ps ++ qs)).map V.int) := fun H1 e1 Q q => by
  have e0 : lkRefs ps ++ lkRefs qs = lkRefs (ps ++ qs) := by unfold lkRefs; rw [List.map_append]
  have lk : LksAt H (ps ++ qs) := fun x m => (List.mem_append.mp m).elim (lp x) (lq x)
  refine cat_tups (h1.mono e1) (h2.mono e1) (e1 _ _ ht) (e1 _ _ hu) (by unfold lkRefs; rw [List.length_map, List.length_map]; omega) fun p H2 e2 hp => ?_
  rw [e0] at hp
  generalize hL : ps ++ qs = L at hp lk
  have len : L.length ≤ 200 := by rw [← hL, List.length_append]; exact len
  refine ⟨p, rfl, ⟨_, st_of hp⟩, fun D nD => ?_⟩
  refine lc_tup (K := K) (xs := lkRefs L) (fun i H' => Ex H2 H' ∧ H' D = some (.lst ((numsL (L.take i)).map V.int))) ⟨Ex.new nD, upd_same⟩ (fun i H' _ h => st_of (h.1 _ _ hp)) ?_ ?_
  · rintro i x H3 hi ⟨e3, h3⟩
    have li : i < L.length := by
      have z := (List.getElem?_eq_some_iff.mp hi).1
      unfold lkRefs at z
      rw [List.length_map] at z
      exact z
    unfold lkRefs at hi
    rw [List.getElem?_map, List.getElem?_eq_getElem li] at hi
    obtain rfl : V.ref L[i].1 = x := Option.some.inj hi
    have hx := ((e1.trans e2).trans e3) _ _ (lk _ (List.getElem_mem li))
    refine ⟨rfl, ?_⟩
    unfold tYes
    dsimp only
    rw [if_pos rfl]
    refine (ev_ixU (K := K) (σ := [some (V.ref r), some (.ref L[i].1)]) (i := 1) (v := .int L[i].2.2.1) (ev_var rfl) hx rfl) H3 (Ex.refl H3) _ fun H4 e4 => ?_
    refine ⟨_, e4 _ _ h3, by unfold numsL; rw [List.length_map, List.length_map, List.length_take]; exact sz_lt (by omega), (e3.trans e4).mut nD, ?_⟩
    rw [upd_same, List.take_add_one, List.getElem?_eq_getElem li]
    unfold numsL
    rw [List.map_append, List.map_append]
    rfl
  · rintro H3 ⟨e3, h3⟩
    have e : (lkRefs L).length = L.length := by unfold lkRefs; rw [List.length_map]
    rw [e, List.take_length, ← hL] at h3
    exact q D H3 (fresh_back e2 nD) (e2.trans e3) h3
theorem s_retCB3 {r1 r2 r3 : List V → Hp → VK → Prop} {te : TE} {D : Ends} {σ : L2.St} {H : Hp} (h : te σ H fun x H1 => r3 [x] H1 fun y H2 => r2 [y] H2 fun z H3 => r1 [z] H3 D.rt) : tRet (tCB r1 (tCons (tCB r2 (tCons (tCB r3 (tCons te tNil)) tNil)) tNil)) D σ H := h
/-- Ring.numbers -/
def spNums (CR : Addr) : Sp := fun vs H Q _ => ∃ (r : Addr) (z : Str) (ps qs : List PLk) (D : List Int), vs = [.ref r] ∧ RgAt CR H r z ps qs ∧ ps.length + qs.length ≤ 200 ∧ (∀ k ∈ numsL (ps ++ qs), k ∈ D) ∧ D.length < 64 ∧ ∀ ns : List Int, ns.Pairwise (· < ·) → (∀ k, k ∈ ns ↔ k ∈ numsL (ps ++ qs)) → ∀ H' p, H p = none → Ex H H' → H' p = some (.tup (ns.map V.int)) → Q (.ref p) H'
theorem ok_Ring_numbers (T : Txt P K mg) : FnOk P w K mg base CX0 1 T.f_Ring_numbers T.d_Ring_numbers ["self"] (spNums T.C_Ring) := by
  refine T.F_Ring_numbers.ok sc_Ring_numbers (fun vs H Q E h => ?_) (fun cdv A outer s H vs Q E hr h => ?_)
  · obtain ⟨r, z, ps, qs, D, rfl, _⟩ := h
    rfl
  · obtain ⟨r, z, ps, qs, D, rfl, R, len, sub, d64, q⟩ := h
    refine ⟨_, (pss_one (ps_ret (pe_callTy call_tuple_of (by rfl) T.n_tuple (by decide +kernel) (pa_cons (pe_callB (cr_sortedSet rfl) (by rfl) T.n_sorted (by decide +kernel) (pa_cons (pe_callTy (cr_setI rfl) (by rfl) T.n_set (by decide +kernel) (pa_cons (pe_lc (own := [("link", 1)]) (g := gName 1) (by rfl) sc_Ring_numbers.nd (pi_tup (pe_op op_catA (pe_fld (pv 0) rfl) (pe_fld (pv 0) rfl))) (blkOk_by (own := [("link", 1)]) (N := N_Ring_numbers) (sc := defScope s_Ring_numbers) (by decide +kernel)) (fun _ _ _ _ _ => pg_name (i := 1) sc_Ring_numbers.nd rfl (Or.inl rfl)) (fun _ _ _ _ _ => pts_nil) (fun _ _ _ _ _ => (pe_ix (r := rIxT K) ix_tup (pv 1) pe_int (fun _ _ => rfl)))) pa_nil)) pa_nil)) pa_nil)))), ?_⟩
    obtain ⟨rdx, t, u, hr0, ht, hu⟩ := R.at_
    refine s_retCB3 ((el_nums (K := K) (r := r) (ev_fld (ev_var (i := 0) rfl) hr0 T.cl_Ring T.na_Ring_there rfl) (ev_fld (ev_var (i := 0) rfl) hr0 T.cl_Ring T.na_Ring_back rfl) ht hu R.lp R.lq len) H (Ex.refl H) _ fun pl H1 npl e1 hpl => ?_)
    refine ⟨pl, numsL (ps ++ qs), D, rfl, sq_of hpl, by unfold numsL scanBound; rw [List.length_map, List.length_append]; omega, sub, fun st n nst few => ?_⟩
    refine ⟨st, _, n, rfl, upd_same, by omega, fun ns pr asc mem _ npr => ?_⟩
    refine ⟨pr, _, rfl, .inl ⟨sq_of upd_same, fun pt npt => ?_⟩⟩
    have ex := (e1.trans (Ex.new nst)).trans (Ex.new (o := .lst (ns.map V.int)) npr)
    exact q ns asc (fun k => by rw [mem k]; simp) _ pt (fresh_back ex npt) (ex.trans (Ex.new npt)) upd_same
end
section
open Evl
open Classical in
/-- a chain leads from s to g -/
noncomputable def reachB (ad : Str → List Str) (s g : Str) : Bool := decide (∃ n, Walk ad s g n)
theorem far_reach {ad : Str → List Str} {s g : Str} {W : List Wn} (f : Far ad s W) : decide (g ∈ W.map (·.1)) = reachB ad s g := by
  classical
  unfold reachB
  refine decide_eq_decide.mpr ⟨fun h => ?_, fun ⟨n, w⟩ => ?_⟩
  · obtain ⟨x, mx, rfl⟩ := List.mem_map.mp h
    exact ⟨x.2, f.wk x mx⟩
  · obtain ⟨m, hm, _⟩ := f.near w
    exact List.mem_map.mpr ⟨_, hm, rfl⟩
theorem reach_same {ad bd : Str → List Str} (h : ∀ t u, u ∈ ad t ↔ u ∈ bd t) (s g : Str) : reachB ad s g = reachB bd s g := by
  classical
  unfold reachB
  exact decide_eq_decide.mpr ⟨fun ⟨n, w⟩ => ⟨n, w.mono fun t u => (h t u).mp⟩, fun ⟨n, w⟩ => ⟨n, w.mono fun t u => (h t u).mpr⟩⟩
/-- a ring name -/
noncomputable def ringB (es : List Rc) (n : Str) : Bool := reachB (adN es) n (flip n) && reachB (adN es) (flip n) n
theorem nm_ord {es : List Rc} {N : List Str} (rows : ∀ e ∈ es, RowD e.R e.D) (od : Ord (allNames ((es.map Rc.ent).map (·.2))) N) {n : Str} (hn : n ∈ N) : isName n = true := by
  have z := (od.mem n).mp hn
  rw [allNames_ent, List.mem_flatMap] at z
  obtain ⟨e, m, h⟩ := z
  obtain ⟨y, hy, rfl⟩ := List.mem_map.mp h
  exact rowLit rows m ((rowD (rows e m) y).mp hy)
/-- ring_names(book) -/
def spRgN (C CB : Addr) : Sp := fun vs H Q _ => ∃ (b dx d : Addr) (es : List Rc) (last : Int) (nms : List Str), vs = [.ref b] ∧ BkAt C CB H b dx d (es.map Rc.ent) last ∧ EsOk es last ∧ nms.length ≤ 13 ∧ (∀ e ∈ es, ∀ z ∈ e.R, bare z ∈ nms) ∧ ∀ N, Ord (allNames ((es.map Rc.ent).map (·.2))) N → RetL ((N.filter (ringB es)).map V.str) H Q
theorem ok_ring_names (T : Txt P K mg) : FnOk P w K mg base CX0 15 T.f_ring_names T.d_ring_names ["book"] (spRgN T.C_Clause T.C_Book) := by
  refine T.F_ring_names.ok sc_ring_names (fun vs H Q E h => ?_) (fun cdv A outer s H vs Q E hr h => ?_)
  · obtain ⟨b, dx, d, es, last, nms, rfl, _⟩ := h
    rfl
  · obtain ⟨b, dx, d, es, last, nms, rfl, B, o, n13, sub, q⟩ := h
    have hu := hr.un
    refine ⟨_, (pss_cons (ps_set (i := 1) sc_ring_names.nd rfl (.inr rfl) (pe_call (ok_all_reached T) (hr.mono (by decide)) rfl T.g_all_reached T.F_all_reached.kp T.b_all_reached .nil pass0 (pa_cons (pv 0) pa_nil)))
      (pss_one (ps_ret (pe_lc (tt := tAnd (tTest (tOp (rIn K false) (tCall (spLit T.C_BadLiteral fun z => .str (flip z)) [] E0 (tCons (tVar 2) tNil)) (tDGet (tVar 1) (tVar 2)))) (tTest (tOp (rIn K false) (tVar 2) (tDGet (tVar 1) (tCall (spLit T.C_BadLiteral fun z => .str (flip z)) [] E0 (tCons (tVar 2) tNil)))))) (own := [("name", 2)]) (g := gName 2) (by rfl) sc_ring_names.nd (pi_tup (pe_prop (pv 0) T.cl_Book T.P_Book_names (ok_Book_names T) (hr.mono (by decide)) T.b_Book_names .nil pass0 (by rfl))) (blkOk_by (own := [("name", 2)]) (N := N_ring_names) (sc := defScope s_ring_names) (by decide +kernel)) (fun _ _ _ _ _ => pg_name (i := 2) sc_ring_names.nd rfl (Or.inl rfl)) (fun _ _ _ _ _ => (pts_one (PW.pt (pw_and (pt_cmpR op_in_seq (pe_call (ok_negated T) (hr.mono (by decide)) rfl T.g_negated T.F_negated.kp T.b_negated .nil passN0 (pa_cons (pv 2) pa_nil)) (pe_dget (by exact lt_u1 (k := 14) hu) (pv 1) (pv 2) (fun _ _ => rfl)) (by rfl)) (pw_and1 (pt_cmpR op_in_seq (pv 2) (pe_dget (by exact lt_u1 (k := 14) hu) (pv 1) (pe_call (ok_negated T) (hr.mono (by decide)) rfl T.g_negated T.F_negated.kp T.b_negated .nil passN0 (pa_cons (pv 2) pa_nil)) (fun _ _ => rfl)) (by rfl))))))) (fun _ _ _ _ _ => (pv 2)))))), ?_⟩
    refine ⟨.ref b, rfl, b, dx, d, es, last, nms, rfl, B, o, n13, sub, fun H1 p N e1 od rt => ?_⟩
    dsimp only [gName]
    have B1 := B.mono e1
    have len := o.lenD
    have evN := eu_namesB (E := E0) (σ := [some (V.ref b), some (.ref p), none]) (te := tVar 0) (ev_var rfl) B1 (by omega) od
    refine evN H1 (Ex.refl H1) _ fun pn H2 npn e2 hpn => ⟨pn, rfl, ⟨_, st_of hpn⟩, fun D nD => ?_⟩
    refine lc_tup (K := K) (xs := N.map V.str) (fun i H' => Ex H2 H' ∧ H' D = some (.lst (((N.take i).filter (ringB es)).map V.str))) ⟨Ex.new nD, upd_same⟩ (fun i H' _ h => st_of (h.1 _ _ hpn)) ?_ ?_
    · rintro i x H3 hi ⟨e3, h3⟩
      obtain ⟨z, hz, rfl⟩ := pick_str hi
      have mz : z ∈ N := List.mem_of_getElem? hz
      have t1 : z ∈ N.flatMap twoOf := List.mem_flatMap.mpr ⟨z, mz, List.mem_cons_self⟩
      have t2 : ("-" ++ z) ∈ N.flatMap twoOf := List.mem_flatMap.mpr ⟨z, mz, List.mem_cons_of_mem _ (List.mem_singleton.mpr rfl)⟩
      have lz := (lit_two o.row sub od t1).1
      have nz : isName z = true := nm_ord o.row od mz
      have fz : flip z = "-" ++ z := flip_no (name_dash nz)
      rw [← fz] at t2
      obtain ⟨kvs, hk, all⟩ := rt.mono (e2.trans e3)
      obtain ⟨a1, W1, v1, w1, f1, l1⟩ := all z t1
      obtain ⟨a2, W2, v2, w2, f2, l2⟩ := all (flip z) t2
      have tz := lit_txt lz
      refine ⟨rfl, ?_⟩
      have neg : ∀ {H0 : Hp}, Ev (tCall (spLit T.C_BadLiteral fun z => .str (flip z)) [] E0 (tCons (tVar 2) tNil)) [some (V.ref b), some (.ref p), some (.str z)] H0 (.str (flip z)) := fun {H0} => ev_call (ea_cons (ev_var rfl) ea_nil) fun H6 e6 Q q E => ⟨z, rfl, Nat.le_trans tz.1 (by decide), tz.2, fun _ => q, fun nl => absurd (lz.symm.trans nl) (by simp)⟩
      have get : ∀ {H0 : Hp} {ty : TE} {y : Str} {a : Addr}, Ex H3 H0 → valV kvs (.inr y) = some (.ref a) → Ev ty [some (V.ref b), some (.ref p), some (.str z)] H0 (.str y) → Ev (tDGet (tVar 1) ty) [some (V.ref b), some (.ref p), some (.str z)] H0 (.ref a) := fun {H0 ty y a} e hv hy H7 e7 Q1 k1 => ⟨_, rfl, hy H7 e7 _ fun H8 e8 => ⟨p, _, rfl, .inl ⟨kvs, .inr y, .inl (((e.trans e7).trans e8) _ _ hk), rfl, hv.symm⟩, k1 H8 e8⟩⟩
      have tst : EvT (tAnd (tTest (tOp (rIn K false) (tCall (spLit T.C_BadLiteral fun z => .str (flip z)) [] E0 (tCons (tVar 2) tNil)) (tDGet (tVar 1) (tVar 2)))) (tTest (tOp (rIn K false) (tVar 2) (tDGet (tVar 1) (tCall (spLit T.C_BadLiteral fun z => .str (flip z)) [] E0 (tCons (tVar 2) tNil)))))) [some (V.ref b), some (.ref p), some (.str z)] H3 (ringB es z) := et_is (et_and (et_test (ev_op neg (get (Ex.refl H3) v1 (ev_var rfl)) (rv_isL (sq_of w1) rfl (flat_str _)))) (fun _ => et_test (ev_op (ev_var rfl) (get (Ex.refl H3) v2 neg) (rv_isL (sq_of w2) rfl (flat_str _))))) (by rw [in_map, in_map, far_reach f1, far_reach f2]; rfl)
      refine tst H3 (Ex.refl H3) _ fun H4 e4 => ?_
      have h4 := e4 _ _ h3
      have stp : (N.take (i + 1)).filter (ringB es) = (N.take i).filter (ringB es) ++ [z].filter (ringB es) := by rw [List.take_add_one, hz, List.filter_append]; rfl
      have lN : N.length ≤ 200 := Nat.le_trans (perm_len_le od.nd fun x hx => (od.mem x).mp hx) (by omega)
      cases c : ringB es z with
      | true =>
        rw [if_pos rfl]
        have lf : ((N.take i).filter (ringB es)).length ≤ N.length := Nat.le_trans (List.length_filter_le _ _) (List.length_take_le' _ _)
        refine ⟨_, rfl, _, h4, by rw [List.length_map]; exact sz_lt (by omega), (e3.trans e4).mut nD, ?_⟩
        rw [upd_same, stp, List.filter_cons_of_pos c, List.map_append]
        rfl
      | false =>
        rw [if_neg (by simp)]
        refine ⟨e3.trans e4, ?_⟩
        rw [h4, stp, List.filter_cons_of_neg (by rw [c]; simp), List.filter_nil, List.append_nil]
    · rintro H3 ⟨e3, h3⟩
      rw [List.length_map, List.take_length] at h3
      exact q N od D H3 (fresh_back (e1.trans e2) nD) ((e1.trans e2).trans e3) h3
def RgOc (CR : Addr) (es : List Rc) (z : Str) (W1 W2 : List Wn) (H H' : Hp) (v : V) : Prop := (v = .non ∧ ((∀ n, (flip z, n) ∉ W1) ∨ ∀ n, (z, n) ∉ W2)) ∨ ∃ r ps qs n1 n2, v = .ref r ∧ (flip z, n1) ∈ W1 ∧ (z, n2) ∈ W2 ∧ H r = none ∧ RgAt CR H' r z ps qs ∧ GoodL es z (flip z) n1 ps ∧ GoodL es (flip z) z n2 qs
/-- ring_at(book, name) -/
def spRgA (C CB CN CR : Addr) : Sp := fun vs H Q E => ∃ (b dx d : Addr) (es : List Rc) (last : Int) (z : Str) (nms : List Str), vs = [.ref b, .str z] ∧ BkAt C CB H b dx d (es.map Rc.ent) last ∧ EsOk es last ∧ Txt8 49 z ∧ nms.length ≤ 13 ∧ (isName z = true → z ∈ nms) ∧ (∀ e ∈ es, ∀ z ∈ e.R, bare z ∈ nms) ∧
  (isName z = false → ∀ H' d, Ex H H' → H' d = some (.xd [("text", .str z)]) → E (.ref CN) (some d) H') ∧
  (isName z = true → ∀ W1 W2, Far (adN es) z W1 → Far (adN es) (flip z) W2 → ∀ H' v, Ex H H' → RgOc CR es z W1 W2 H H' v → Q v H')
theorem ok_ring_at (T : Txt P K mg) : FnOk P w K mg base (L2N.CX P w) 15 T.f_ring_at T.d_ring_at ["book", "name"] (spRgA T.C_Clause T.C_Book T.C_BadName T.C_Ring) := by
  refine T.F_ring_at.okN sc_ring_at (fun vs H Q E h => ?_) (fun cdv A outer s H vs Q E hr h => ?_)
  · obtain ⟨b, dx, d, es, last, z, nms, rfl, _⟩ := h
    rfl
  · obtain ⟨b, dx, d, es, last, z, nms, rfl, B, o, tz, n13, zn, sub, bad, good⟩ := h
    refine ⟨_, (pss_cons (ps_expr (pe_call (ok_check_name T) (hr.mono (by decide)) rfl T.g_check_name T.F_check_name.kp T.b_check_name .nil (L2N.passes_call (L2N.takes_of rfl rfl rfl rfl) (fun _ _ _ _ h => h)) (pa_cons (pv 1) pa_nil)))
      (pss_cons (ps_set (i := 2) sc_ring_at.nd rfl (.inl rfl) (pe_call (ok_chain T) (hr.mono (by decide)) rfl T.g_chain T.F_chain.kp T.b_chain .nil (L2N.passes_call (L2N.takes_of rfl rfl rfl rfl) (fun _ _ _ _ h => h)) (pa_cons (pv 0) (pa_cons (pv 1) (pa_cons (pe_call (ok_negated T) (hr.mono (by decide)) rfl T.g_negated T.F_negated.kp T.b_negated .nil (L2N.passes_call (L2N.takes_of rfl rfl rfl rfl) (fun _ _ _ _ h => h)) (pa_cons (pv 1) pa_nil)) pa_nil)))))
      (pss_cons (ps_set (i := 3) sc_ring_at.nd rfl (.inl rfl) (pe_call (ok_chain T) (hr.mono (by decide)) rfl T.g_chain T.F_chain.kp T.b_chain .nil (L2N.passes_call (L2N.takes_of rfl rfl rfl rfl) (fun _ _ _ _ h => h)) (pa_cons (pv 0) (pa_cons (pe_call (ok_negated T) (hr.mono (by decide)) rfl T.g_negated T.F_negated.kp T.b_negated .nil (L2N.passes_call (L2N.takes_of rfl rfl rfl rfl) (fun _ _ _ _ h => h)) (pa_cons (pv 1) pa_nil)) (pa_cons (pv 1) pa_nil)))))
      (pss_cons (ps_if (PW.pt (pw_or (pt_cmpR op_isN (pv 2) pe_non (nomark _)) (pw_or1 (pt_cmpR op_isN (pv 3) pe_non (nomark _))))) (pss_one (ps_ret pe_non)) pss_nil)
      (pss_one (ps_ret (pe_make (mkRg T) (ok_Ring_init T) (hr.mono (by decide)) rfl T.g_Ring T.b_Ring_init .nil (L2N.passes_call (L2N.takes_of rfl rfl rfl rfl) (fun _ _ _ _ h => h)) (pa_cons (pv 1) (pa_cons (pv 2) (pa_cons (pv 3) pa_nil)))))))))), ?_⟩
    refine ⟨.str z, rfl, z, rfl, Nat.le_trans tz.1 (by decide), tz.2, fun nz H1 e1 => ?_, fun nl H1 x e1 hx => bad nl H1 x e1 hx⟩
    have lz := name_lit nz
    have lf := flip_lit lz
    have tl := lit_txt lz
    have tf := lit_txt lf
    have good := good nz
    have bz : bare z = z := bare_no (name_dash nz)
    have so1 : SrOk es nms z := ⟨fun _ => by rw [bz]; exact zn nz, n13, sub⟩
    have so2 : SrOk es nms (flip z) := ⟨fun _ => by rw [bare_flip lz, bz]; exact zn nz, n13, sub⟩
    refine ⟨.ref b, rfl, .str z, rfl, .str z, rfl, z, rfl, Nat.le_trans tl.1 (by decide), tl.2, fun _ H2 e2 => ?_, fun nl => absurd (lz.symm.trans nl) (by simp)⟩
    have e12 := e1.trans e2
    refine ⟨b, dx, d, es, last, z, flip z, nms, rfl, B.mono e12, o, tl.mono (by decide), tf.mono (by decide), fun _ => so1, fun _ _ W1 f1 v1 H3 e3 oc1 => ?_, fun nl => absurd (lz.symm.trans nl) (by simp), fun _ nl => absurd (lf.symm.trans nl) (by simp)⟩
    dsimp only [gName]
    have e13 := e12.trans e3
    refine ⟨.ref b, rfl, .str z, rfl, z, rfl, Nat.le_trans tl.1 (by decide), tl.2, fun _ H4 e4 => ?_, fun nl => absurd (lz.symm.trans nl) (by simp)⟩
    have e14 := e13.trans e4
    refine ⟨.str z, rfl, b, dx, d, es, last, flip z, z, nms, rfl, B.mono e14, o, tf.mono (by decide), tl.mono (by decide), fun _ => so2, fun _ _ W2 f2 v2 H5 e5 oc2 => ?_, fun nl => absurd (lf.symm.trans nl) (by simp), fun _ nl => absurd (lz.symm.trans nl) (by simp)⟩
    dsimp only [gName]
    have e15 := e14.trans e5
    have gd := good W1 W2 f1 f2
    refine q_when (b := decide (v1 = .non) || decide (v2 = .non)) (et_or (et_test (ev_op (ev_var rfl) ev_c (fun H1 _ Q q => ⟨rfl, q H1 (Ex.refl H1)⟩))) (fun _ => et_test (ev_op (ev_var rfl) ev_c (fun H1 _ Q q => ⟨rfl, q H1 (Ex.refl H1)⟩)))) (fun c H6 e6 => ?_) (fun c H6 e6 => ?_)
    · refine s_ret ev_c fun H7 e7 => gd H7 .non ((e15.trans e6).trans e7) (.inl ⟨rfl, ?_⟩)
      rcases oc1 with ⟨_, h⟩ | ⟨r1, ps, n1, rfl, _⟩
      · exact .inl h
      · rcases oc2 with ⟨_, h⟩ | ⟨r2, qs, n2, rfl, _⟩
        · exact .inr h
        · cases c
    · rcases oc1 with ⟨rfl, _⟩ | ⟨r1, ps, n1, rfl, m1, nr1, hr1, lk1, g1⟩
      · cases c
      rcases oc2 with ⟨rfl, _⟩ | ⟨r2, qs, n2, rfl, m2, nr2, hr2, lk2, g2⟩
      · simp at c
      have e16 := e15.trans e6
      have e36 := (e4.trans e5).trans e6
      refine ⟨.str z, rfl, .ref r1, rfl, .ref r2, rfl, fun x xd nx nd ne => ?_⟩
      have ed : Ex H6 (upd (upd H6 xd (.own x)) x (.ins T.C_Ring xd [])) := (Ex.new nd).trans (Ex.new (by rw [upd_ne (Ne.symm ne)]; exact nx))
      refine ⟨x, xd, z, r1, r2, ps, qs, rfl, upd_same, tz.mono (by decide), .inl (ed _ _ (e36 _ _ hr1)), .inl (ed _ _ (e6 _ _ hr2)), (lk1.mono e36).mono ed, (lk2.mono e6).mono ed, fun nl => absurd (nz.symm.trans nl) (by simp), fun _ H8 keep R => ⟨rfl, ?_⟩⟩
      refine gd H8 (.ref x) (fun c u hc => ?_) (.inr ⟨x, ps, qs, n1, n2, rfl, m1, m2, fresh_back e16 nx, R, g1, g2⟩)
      have h6 := e16 _ _ hc
      exact keep _ _ (ne_of_none h6 nx) (ed _ _ h6)
end
section
open Evl
structure FI2 (nms : List Str) (H H' : Hp) (rr : Addr) (W : List Wn) : Prop where
  ex : Ex H H'
  re : H' rr = some (.lst ((W.map (·.1)).map V.str))
  lit : ∀ x ∈ W, isLit x.1 = true ∧ bare x.1 ∈ nms
theorem FI2.mono {nms : List Str} {H H' H2 : Hp} {rr : Addr} {W : List Wn} (I : FI2 nms H H' rr W) (e : Ex H' H2) : FI2 nms H H2 rr W := ⟨I.ex.trans e, e _ _ I.re, I.lit⟩
/-- _law_reach(rows, literal) -/
def spRch : Sp := fun vs H Q _ => ∃ (lr : Addr) (es : List Rc) (s : Str) (nms : List Str), vs = [.ref lr, .str s] ∧ H lr = some (.lst (es.map fun e => V.ref e.ra)) ∧ (∀ e ∈ es, H e.ra = some (.lst (e.R.map V.str))) ∧ (∀ e ∈ es, RowD e.R e.D) ∧ isLit s = true ∧ bare s ∈ nms ∧ nms.length ≤ 12 ∧ (∀ e ∈ es, ∀ z ∈ e.R, bare z ∈ nms) ∧
  ∀ H' rr W, Ex H H' → H rr = none → H' rr = some (.lst ((W.map (·.1)).map V.str)) → Far (adL es) s W → (∀ x ∈ W, isLit x.1 = true ∧ bare x.1 ∈ nms) → Q (.ref rr) H'
theorem ok__law_reach (T : Txt P K mg) : FnOk P w K mg base CX0 2 T.f__law_reach T.d__law_reach ["_law_rows", "_law_literal"] spRch := by
  refine T.F__law_reach.ok sc__law_reach (fun vs H Q E h => ?_) (fun cdv A outer s H vs Q E hr h => ?_)
  · obtain ⟨lr, es, s, nms, rfl, _⟩ := h
    rfl
  · obtain ⟨lr, es, s, nms, rfl, hlr, each, rows, ls, sn, n12, sub, q⟩ := h
    refine ⟨_, (pss_cons (ps_set (i := 2) sc__law_reach.nd rfl (.inl rfl) (pe_lst (pa_cons (pv 1) pa_nil)))
      (pss_cons (ps_for PassesOwn.never rfl (pi_range1 rfl T.n_range (pa_cons pe_int pa_nil)) (pg_name (i := 3) sc__law_reach.nd rfl (.inl rfl)) (pss_one (ps_if (pt_cmpR op_lt (pv 3) (pe_callB call_len_seq (by rfl) T.n_len PySem.boot_len (pa_cons (pv 2) pa_nil)) (nomark _)) (pss_one (ps_for PassesOwn.never rfl (pi_list (pv 0)) (pg_name (i := 4) sc__law_reach.nd rfl (.inl rfl)) (pss_one (ps_if (pt_cmpR op_in_seq (pe_ix ix_list (pv 2) (pv 3) (fun _ _ => rfl)) (pv 4) (by rfl)) (pss_one (ps_for PassesOwn.never rfl (pi_list (pv 4)) (pg_name (i := 5) sc__law_reach.nd rfl (.inl rfl)) (pss_one (ps_if (PW.pt (pw_and (pt_cmpR op_ne (pv 5) (pe_ix ix_list (pv 2) (pv 3) (fun _ _ => rfl)) (nomark _)) (pw_and1 (pt_cmpR op_notIn_seq (pe_call (ok__law_flip T) (hr.mono (by decide)) rfl T.g__law_flip T.F__law_flip.kp T.b__law_flip .nil pass0 (pa_cons (pv 5) pa_nil)) (pv 2) (by rfl))))) (pss_one (ps_expr (pe_bm PySem.F.plainAttrs_list PySem.F.slot_list_append PySem.F.type_list_append mt_append (pv 2) (pa_cons (pe_call (ok__law_flip T) (hr.mono (by decide)) rfl T.g__law_flip T.F__law_flip.kp T.b__law_flip .nil pass0 (pa_cons (pv 5) pa_nil)) pa_nil)))) pss_nil)))) pss_nil)))) pss_nil)))
      (pss_one (ps_ret (pv 2))))), ?_⟩
    refine q_asgL (xs := [.str s]) (el_lst (ea_cons (ev_var rfl) ea_nil) (by show 1 ≤ 100000; omega)) fun rr H1 nrr e1 hrr => ?_
    have I2 : FI2 nms H H1 rr [(s, 0)] := ⟨e1, hrr, fun x m => by rw [List.mem_singleton.mp m]; exact ⟨ls, sn⟩⟩
    have cap : ∀ {W : List Wn} {i : Nat} {P : List Str}, Bf (adL es) s W i P → (∀ x ∈ W, isLit x.1 = true ∧ bare x.1 ∈ nms) → W.length ≤ 24 := fun b lit => by
      have z := far_len (nms := nms) b.nd fun x m => (lit x m).2
      omega
    refine q_forR1 (n := 24) (j := 3) (ea_cons ev_c ea_nil) (by omega) (fun k σ H' => ∃ (W : List Wn) (i : Nat) (v4 v5 v6 : Option V), σ = [some (V.ref lr), some (.str s), some (.ref rr), v4, v5, v6] ∧ FI2 nms H H' rr W ∧ Bf (adL es) s W i [] ∧ (i = k ∨ (W.length ≤ i ∧ W.length ≤ k)))
      (fun H3 e3 => ⟨_, 0, none, none, none, rfl, I2.mono e3, Bf.start _ _, .inl rfl⟩) ?_ ?_
    · rintro k σ H3 hk ⟨W, i, v4, v5, v6, rfl, I, b, why⟩
      have lW := cap b I.lit
      have lE : (((W.map (·.1)).map V.str).length : Int) = (W.length : Int) := by rw [List.length_map, List.length_map]
      refine s_when (et_test (ev_op (x := .int (k : Int)) (y := .int (W.length : Int)) (ev_var rfl) (ev_is (ev_len (ev_var rfl) (sq_of I.re)) (by rw [lE])) (fun H1 _ Q q => ⟨_, _, rfl, rfl, q H1 (Ex.refl H1)⟩))) (fun lt H4 e4 => ?_) (fun ge H4 e4 => ⟨W, i, _, _, _, rfl, I.mono e4, b, ?_⟩)
      rotate_left
      · have ge : ¬ ((k : Int) < (W.length : Int)) := of_decide_eq_false ge
        rcases why with rfl | ⟨h1, h2⟩
        · exact .inr ⟨by omega, by omega⟩
        · exact .inr ⟨h1, by omega⟩
      have lk : k < W.length := by have := of_decide_eq_true lt; omega
      have ik : i = k := by
        rcases why with h | ⟨h1, h2⟩
        · exact h
        · omega
      subst ik
      obtain ⟨c, hc⟩ : ∃ c, W[i]? = some c := ⟨_, List.getElem?_eq_getElem lk⟩
      have atR : ∀ {σ : L2.St} {H' : Hp} {W' : List Wn}, FI2 nms H H' rr W' → W'[i]? = some c → σ[2]? = some (some (V.ref rr)) → σ[3]? = some (some (.int (i : Int))) → Ev (tOp (rIxL K) (tVar 2) (tVar 3)) σ H' (.str c.1) := fun I' c' h2 h4 => ev_op (ev_var h2) (ev_var h4) (rv_ixL (sq_of I'.re) (atI_nat (j := i) (by rw [List.getElem?_map, List.getElem?_map, c']; rfl)))
      refine s_forLn (K := K) (a := lr) (xs := es.map fun e => V.ref e.ra) (j := 4) (ev_var rfl) (sq_of ((I.mono e4).ex _ _ hlr)) (fun j σ H' => ∃ (W' : List Wn) (v5 v6 : Option V), σ = [some (V.ref lr), some (.str s), some (.ref rr), some (.int (i : Int)), v5, v6] ∧ FI2 nms H H' rr W' ∧ Bf (adL es) s W' i (adL (es.take j) c.1) ∧ W'[i]? = some c)
        (fun H5 e5 => ⟨W, _, _, rfl, (I.mono e4).mono e5, b, hc⟩) (fun j σ' H' _ ⟨_, _, _, _, I', _⟩ => sq_of (I'.ex _ _ hlr)) ?_ ?_
      · rintro j x σ H5 hj ⟨W', v5', v6', rfl, I5, b5, c5⟩
        have lj : j < es.length := by
          have w := (List.getElem?_eq_some_iff.mp hj).1
          rw [List.length_map] at w
          exact w
        rw [List.getElem?_map, List.getElem?_eq_getElem lj] at hj
        obtain rfl : V.ref es[j].ra = x := Option.some.inj hj
        have hR := each _ (List.getElem_mem lj)
        have mj := List.getElem_mem lj
        have nx := adL_snoc (z := c.1) lj
        dsimp only [gName]
        refine s_when (b := decide (c.1 ∈ es[j].R)) (et_test (ev_is (ev_op (x := .str c.1) (atR I5 c5 rfl rfl) (ev_var rfl) (rv_isL (sq_of (I5.ex _ _ hR)) rfl (flat_str es[j].R))) (by rw [in_map]))) (fun yes H6 e6 => ?_) (fun no H6 e6 => ?_)
        · have my : c.1 ∈ es[j].R := of_decide_eq_true yes
          rw [if_pos my] at nx
          refine s_forLn (K := K) (a := es[j].ra) (xs := es[j].R.map V.str) (j := 5) (ev_var rfl) (sq_of ((I5.mono e6).ex _ _ hR)) (fun m σ H' => ∃ (W' : List Wn) (v6 : Option V), σ = [some (V.ref lr), some (.str s), some (.ref rr), some (.int (i : Int)), some (.ref es[j].ra), v6] ∧ FI2 nms H H' rr W' ∧ Bf (adL es) s W' i (adL (es.take j) c.1 ++ adL1 (es[j].R.take m) c.1) ∧ W'[i]? = some c)
            (fun H7 e7 => ⟨W', _, rfl, (I5.mono e6).mono e7, by
              show Bf (adL es) s W' i (adL (es.take j) c.1 ++ [])
              rw [List.append_nil]; exact b5, c5⟩) (fun m σ' H' _ ⟨_, _, _, I', _⟩ => sq_of (I'.ex _ _ hR)) ?_ ?_
          · rintro m x σ H7 hm ⟨W7, v6'', rfl, I7, b7, c7⟩
            obtain ⟨y, hy, rfl⟩ := pick_str hm
            have lm : m < es[j].R.length := (List.getElem?_eq_some_iff.mp hy).1
            have ey : es[j].R[m] = y := (List.getElem?_eq_some_iff.mp hy).2
            have n1 := adL1_snoc (z := c.1) lm
            rw [ey] at n1
            have yR : y ∈ es[j].R := List.mem_of_getElem? hy
            have ly := rowLit rows mj yR
            have ty := lit_txt ly
            have fly := ev_flipS (E := E0) (σ := [some (V.ref lr), some (.str s), some (.ref rr), some (.int (i : Int)), some (.ref es[j].ra), some (.str y)]) (H := H7) (te := tVar 5) (ev_var rfl) (Nat.le_trans ty.1 (by decide))
            dsimp only [gName]
            refine s_when (b := (!decide (V.str y = V.str c.1)) && !decide (flip y ∈ W7.map (·.1))) (et_and (et_test (ev_op (ev_var rfl) (atR I7 c7 rfl rfl) (rv_ne rfl))) (fun _ => et_test (ev_is (ev_op fly (ev_var rfl) (rv_niL (sq_of I7.re) rfl (flat_str _))) (by rw [in_map])))) (fun cc H8 e8 => ?_) (fun cc H8 e8 => ?_)
            · have ne : y ≠ c.1 := fun e => by rw [e, decide_eq_true rfl] at cc; cases cc
              have new : flip y ∉ W7.map (·.1) := fun h => by rw [decide_eq_true h, Bool.and_comm] at cc; cases cc
              rw [if_pos ne] at n1
              have I8 := I7.mono e8
              have lW7 := cap b7 I7.lit
              have fly8 := ev_flipS (E := E0) (σ := [some (V.ref lr), some (.str s), some (.ref rr), some (.int (i : Int)), some (.ref es[j].ra), some (.str y)]) (H := H8) (te := tVar 5) (ev_var rfl) (Nat.le_trans ty.1 (by decide))
              refine s_app (K := K) (v := .str (flip y)) I8.re (ev_var rfl) fly8 (by rw [List.length_map, List.length_map]; omega) fun H9 e9 => ?_
              refine ⟨W7 ++ [(flip y, c.2 + 1)], _, rfl, ⟨(I8.ex.trans e9).mut nrr, by rw [upd_same, List.map_append, List.map_append]; rfl, fun x m => ?_⟩, ?_, by rw [List.getElem?_append_left (List.getElem?_eq_some_iff.mp c7).1]; exact c7⟩
              · rcases List.mem_append.mp m with m | m
                · exact I7.lit x m
                · rw [List.mem_singleton.mp m]
                  exact ⟨flip_lit ly, by rw [bare_flip ly]; exact sub _ mj y yR⟩
              · rw [n1, ← List.append_assoc]
                refine b7.add c7 new ?_
                unfold adL
                refine List.mem_flatMap.mpr ⟨es[j], mj, ?_⟩
                rw [if_pos my]
                exact List.mem_map.mpr ⟨y, List.mem_filter.mpr ⟨yR, decide_eq_true ne⟩, rfl⟩
            · refine ⟨W7, _, rfl, I7.mono e8, ?_, c7⟩
              by_cases ne : y = c.1
              · rw [if_neg (fun h => h ne), List.append_nil] at n1
                rw [n1]; exact b7
              · have old : flip y ∈ W7.map (·.1) := by
                  by_cases h : flip y ∈ W7.map (·.1)
                  · exact h
                  · rw [decide_eq_false h, decide_eq_false (fun e => ne (V.str.inj e))] at cc; cases cc
                rw [if_pos ne] at n1
                rw [n1, ← List.append_assoc]
                exact b7.see old
          · rintro σ H7 ⟨W7, v6'', rfl, I7, b7, c7⟩
            rw [List.length_map, List.take_length, ← nx] at b7
            exact ⟨W7, _, _, rfl, I7, b7, c7⟩
        · have my : c.1 ∉ es[j].R := of_decide_eq_false no
          rw [if_neg my, List.append_nil] at nx
          exact ⟨W', _, _, rfl, I5.mono e6, by rw [nx]; exact b5, c5⟩
      · rintro σ H5 ⟨W', v5', v6', rfl, I5, b5, c5⟩
        rw [List.length_map, List.take_length] at b5
        exact ⟨W', i + 1, _, _, _, rfl, I5, b5.next c5 fun u hu => hu, .inl rfl⟩
    · rintro σ H3 ⟨W, i, v4, v5, v6, rfl, I, b, why⟩
      have lW := cap b I.lit
      have done : W.length ≤ i := by
        rcases why with h | ⟨h, _⟩
        · have h : i = 24 := h
          omega
        · exact h
      exact ⟨.ref rr, rfl, q _ rr W I.ex nrr I.re (b.done done) I.lit⟩
end
section
open Evl
theorem el_gen {α : Type} {σ : L2.St} {H : Hp} {a : Addr} {ys : List α} {r f : α → V} {tl te : TE} {j : Nat} {vs : List Nat} (h : Ev tl σ H (.ref a)) (hx : H a = some (.lst (ys.map r))) (hz : ys.length ≤ 40000) (hw : ∀ x, wipe ((wipe σ vs).set j (some x)) vs = wipe σ vs)
    (he : ∀ y ∈ ys, ∀ H1, Ex H H1 → Ev te ((wipe σ vs).set j (some (r y))) H1 (f y)) : EvL (tLc (iList K tl) (gName j) tYes te vs) σ H (ys.map f) := fun H0 e Q q => h H0 e _ fun H1 e1 => by
  have e01 := e.trans e1
  refine ⟨a, rfl, ⟨_, sq_of (e01 _ _ hx)⟩, fun D nD => lc_list (K := K) (xs := ys.map r) (fun i H' => Ex H1 H' ∧ H' D = some (.lst ((ys.take i).map f))) ⟨Ex.new nD, upd_same⟩ (fun i H' _ x => sq_of (x.1 _ _ (e01 _ _ hx))) ?_ ?_⟩
  · rintro i x H3 hi ⟨q1, q2⟩
    have li : i < ys.length := by
      have z := (List.getElem?_eq_some_iff.mp hi).1
      rw [List.length_map] at z
      exact z
    rw [List.getElem?_map, List.getElem?_eq_getElem li] at hi
    obtain rfl : r ys[i] = x := Option.some.inj hi
    refine ⟨hw _, ?_⟩
    unfold tYes
    dsimp only
    rw [if_pos rfl]
    refine he _ (List.getElem_mem li) H3 (e01.trans q1) H3 (Ex.refl H3) _ fun H4 e4 => ⟨_, e4 _ _ q2, ?_, (q1.trans e4).mut nD, ?_⟩
    · rw [List.length_map]
      have := List.length_take_le i ys
      exact sz_lt (by omega)
    · rw [upd_same, List.take_add_one, List.getElem?_eq_getElem li, List.map_append]
      rfl
  · rintro H3 ⟨q1, q2⟩
    rw [List.length_map, List.take_length] at q2
    exact q D H3 (fresh_back e1 nD) (e1.trans q1) q2
/-- rows that the law reads, over these names -/
structure RwsAt (H : Hp) (lr : Addr) (es : List Rc) (nms : List Str) : Prop where
  rows : H lr = some (.lst (es.map fun e => V.ref e.ra))
  each : ∀ e ∈ es, H e.ra = some (.lst (e.R.map V.str))
  row : ∀ e ∈ es, RowD e.R e.D
  n12 : nms.length ≤ 12
  sub : ∀ e ∈ es, ∀ z ∈ e.R, bare z ∈ nms
theorem RwsAt.mono {H H' : Hp} {lr : Addr} {es : List Rc} {nms : List Str} (r : RwsAt H lr es nms) (e : Ex H H') : RwsAt H' lr es nms := ⟨e _ _ r.rows, fun x m => e _ _ (r.each x m), r.row, r.n12, r.sub⟩
theorem et_inRch {σ : L2.St} {H : Hp} {tx tr ts : TE} {E : XK} {lr : Addr} {es : List Rc} {nms : List Str} {s g : Str} (hx : Ev tx σ H (.str g)) (hr : Ev tr σ H (.ref lr)) (hs : Ev ts σ H (.str s)) (R : RwsAt H lr es nms) (ls : isLit s = true) (sn : bare s ∈ nms) :
    EvT (tTest (tOp (rIn K false) tx (tCall spRch [] E (tCons tr (tCons ts tNil))))) σ H (reachB (adN es) s g) := et_test (fun H1 e1 Q q => hx H1 e1 _ fun H2 e2 => hr H2 (e1.trans e2) _ fun H3 e3 => hs H3 ((e1.trans e2).trans e3) _ fun H4 e4 => by
  have R4 := R.mono (((e1.trans e2).trans e3).trans e4)
  refine ⟨lr, es, s, nms, rfl, R4.rows, R4.each, R4.row, ls, sn, R4.n12, R4.sub, fun H5 rr W e5 nrr hrr far lit => ?_⟩
  refine (rv_isL (K := K) (x := .str g) (sq_of hrr) rfl (flat_str _)) H5 (Ex.refl H5) _ fun H6 e6 => ?_
  have z := q H6 ((((e2.trans e3).trans e4).trans e5).trans e6)
  rw [reach_same (ad_same R4.row), ← far_reach far] at z
  rw [in_map]
  exact z)
/-- _law_rings(rows) -/
def spRings : Sp := fun vs H Q _ => ∃ (lr : Addr) (es : List Rc) (nms : List Str), vs = [.ref lr] ∧ RwsAt H lr es nms ∧ (rowNames (es.map Rc.row)).length ≤ 60 ∧ ∀ N, Ord (rowNames (es.map Rc.row)) N → RetL ((N.filter (ringB es)).map V.str) H Q
theorem ok__law_rings (T : Txt P K mg) : FnOk P w K mg base CX0 3 T.f__law_rings T.d__law_rings ["_law_rows"] spRings := by
  refine T.F__law_rings.ok sc__law_rings (fun vs H Q E h => ?_) (fun cdv A outer s H vs Q E hr h => ?_)
  · obtain ⟨lr, es, nms, rfl, _⟩ := h
    rfl
  · obtain ⟨lr, es, nms, rfl, R, few, q⟩ := h
    refine ⟨_, (pss_cons (ps_set (i := 1) sc__law_rings.nd rfl (.inl rfl) (pe_lst pa_nil))
      (pss_cons (ps_for PassesOwn.never rfl (pi_list (pe_call (ok__law_names_in T) (hr.mono (by decide)) rfl T.g__law_names_in T.F__law_names_in.kp T.b__law_names_in .nil pass0 (pa_cons (pv 0) pa_nil))) (pg_name (i := 2) sc__law_rings.nd rfl (.inl rfl)) (pss_one (ps_if (PW.pt (pw_and (pt_cmpR op_in_seq (pe_op op_add_str pe_str (pv 2)) (pe_call (ok__law_reach T) (hr.mono (by decide)) rfl T.g__law_reach T.F__law_reach.kp T.b__law_reach .nil pass0 (pa_cons (pv 0) (pa_cons (pv 2) pa_nil))) (by rfl)) (pw_and1 (pt_cmpR op_in_seq (pv 2) (pe_call (ok__law_reach T) (hr.mono (by decide)) rfl T.g__law_reach T.F__law_reach.kp T.b__law_reach .nil pass0 (pa_cons (pv 0) (pa_cons (pe_op op_add_str pe_str (pv 2)) pa_nil))) (by rfl))))) (pss_one (ps_expr (pe_bm PySem.F.plainAttrs_list PySem.F.slot_list_append PySem.F.type_list_append mt_append (pv 1) (pa_cons (pv 2) pa_nil)))) pss_nil)))
      (pss_one (ps_ret (pv 1))))), ?_⟩
    refine q_asgL (xs := []) (el_lst ea_nil (by decide)) fun rr H1 nrr e1 hrr => ?_
    obtain ⟨N, od⟩ := ord_any (rowNames (es.map Rc.row))
    have R1 := R.mono e1
    have lN : N.length ≤ 60 := Nat.le_trans (perm_len_le od.nd fun x hx => (od.mem x).mp hx) few
    have hrw : (es.map Rc.row).map (fun x => V.ref x.1) = es.map fun e => V.ref e.ra := by rw [List.map_map]; rfl
    have el : EvL (tCall spNamesIn [] E0 (tCons (tVar 0) tNil)) [some (V.ref lr), some (.ref rr), none] H1 (N.map V.str) := el_call (ea_cons (ev_var rfl) ea_nil) fun H2 e2 Q q E => ⟨lr, es.map Rc.row, rfl, by rw [hrw]; exact e2 _ _ R1.rows, fun x m => (by
      obtain ⟨e, me, rfl⟩ := List.mem_map.mp m
      exact ⟨e2 _ _ (R1.each e me), fun z hz => rowLit R1.row me hz⟩), few, fun N' od' p H3 np e3 hp => (by
      rw [od'.uniq od fun _ => Iff.rfl] at hp
      exact q p H3 np e3 hp)⟩
    refine q_forNLn (K := K) (j := 2) el (fun p i σ H' => ∃ v2 : Option V, σ = [some (V.ref lr), some (.ref rr), v2] ∧ Ex H H' ∧ p ≠ rr ∧ H' p = some (.lst (N.map V.str)) ∧ H' rr = some (.lst (((N.take i).filter (ringB es)).map V.str))) (fun p H2 np e2 hp => ⟨_, rfl, e1.trans e2, (fun e => by rw [e, hrr] at np; cases np), hp, e2 _ _ hrr⟩) (fun p i σ' H' _ ⟨_, _, _, _, h, _⟩ => sq_of h) ?_ ?_
    · rintro p i x σ H2 hi ⟨v2, rfl, e2, rp, hp2, h2⟩
      obtain ⟨z, hz, rfl⟩ := pick_str hi
      have mz : z ∈ N := List.mem_of_getElem? hz
      have m := (od.mem z).mp mz
      rw [rowNames_row, List.mem_flatMap] at m
      obtain ⟨e, me, hm⟩ := m
      obtain ⟨y, hy, ey⟩ := List.mem_map.mp hm
      have nz : isName z = true := by rw [← ey]; exact rowLit R.row me hy
      have zn : z ∈ nms := by rw [← ey]; exact R.sub e me y hy
      have lz := name_lit nz
      have fz : flip z = "-" ++ z := flip_no (name_dash nz)
      have bz : bare z = z := bare_no (name_dash nz)
      have tz := lit_txt lz
      dsimp only [gName]
      have cat : ∀ {H0 : Hp}, Ev (tOp (fun x y H Q => ∃ i j, x = V.str i ∧ y = V.str j ∧ i.length + j.length ≤ sizeLine ∧ Q (V.str (i ++ j)) H) (tC (.str "-")) (tVar 2)) [some (V.ref lr), some (.ref rr), some (.str z)] H0 (.str (flip z)) := fun {H0} => by
        rw [fz]
        exact ev_catS ev_c (ev_var rfl) (by
          have : z.length ≤ 10 := tz.1
          have : ("-" : Str).length = 1 := by decide
          exact Nat.le_of_lt (sz_lt (by omega)))
      have stp : (N.take (i + 1)).filter (ringB es) = (N.take i).filter (ringB es) ++ [z].filter (ringB es) := by rw [List.take_add_one, hz, List.filter_append]; rfl
      refine s_when (b := ringB es z) (et_and (et_inRch (K := K) cat (ev_var rfl) (ev_var rfl) (R.mono e2) lz (by rw [bz]; exact zn)) (fun _ => et_inRch (K := K) (ev_var rfl) (ev_var rfl) cat (R.mono e2) (flip_lit lz) (by rw [bare_flip lz, bz]; exact zn))) (fun c H3 e3 => ?_) (fun c H3 e3 => ?_)
      · have lf : ((N.take i).filter (ringB es)).length ≤ N.length := Nat.le_trans (List.length_filter_le _ _) (List.length_take_le' _ _)
        refine s_app (K := K) (v := .str z) (e3 _ _ h2) (ev_var rfl) (ev_var rfl) (by rw [List.length_map]; omega) fun H4 e4 => ⟨_, rfl, ((e2.trans e3).trans e4).mut nrr, rp, by rw [upd_ne rp]; exact e4 _ _ (e3 _ _ hp2), ?_⟩
        rw [upd_same, stp, List.filter_cons_of_pos c, List.map_append]
        rfl
      · refine ⟨_, rfl, e2.trans e3, rp, e3 _ _ hp2, ?_⟩
        rw [e3 _ _ h2, stp, List.filter_cons_of_neg (by rw [c]; simp), List.filter_nil, List.append_nil]
    · rintro p σ H2 ⟨v2, rfl, e2, _, _, h2⟩
      rw [List.length_map, List.take_length] at h2
      exact s_ret (ev_var rfl) fun H3 e3 => q N od rr H3 nrr (e2.trans e3) (e3 _ _ h2)
/-- _law_numbers_of(links) -/
def spNumsOf : Sp := fun vs H Q _ => ∃ (p : Addr) (ps : List PLk), vs = [.ref p] ∧ H p = some (.lst (lkRefs ps)) ∧ LksAt H ps ∧ ps.length ≤ 200 ∧ ∀ ns : List Int, ns.Pairwise (· < ·) → (∀ k, k ∈ ns ↔ k ∈ numsL ps) → RetL (ns.map V.int) H Q
theorem ok__law_numbers_of (T : Txt P K mg) : FnOk P w K mg base CX0 2 T.f__law_numbers_of T.d__law_numbers_of ["_law_links"] spNumsOf := by
  refine T.F__law_numbers_of.ok sc__law_numbers_of (fun vs H Q E h => ?_) (fun cdv A outer s H vs Q E hr h => ?_)
  · obtain ⟨p, ps, rfl, _⟩ := h
    rfl
  · obtain ⟨p, ps, rfl, hp, lk, few, q⟩ := h
    refine ⟨_, (pss_cons (ps_set (i := 1) sc__law_numbers_of.nd rfl (.inl rfl) (pe_lst pa_nil))
      (pss_cons (ps_for PassesOwn.never rfl (pi_list (pe_callB cr_sortedN (by rfl) T.n_sorted (by decide +kernel) (pa_cons (pe_lc (own := [("_law_link", 3)]) (g := gName 3) (by rfl) sc__law_numbers_of.nd (pi_list (pv 0)) (blkOk_by (own := [("_law_link", 3)]) (N := N__law_numbers_of) (sc := defScope s__law_numbers_of) (by decide +kernel)) (fun _ _ _ _ _ => pg_name (i := 3) sc__law_numbers_of.nd rfl (Or.inl rfl)) (fun _ _ _ _ _ => pts_nil) (fun _ _ _ _ _ => (pe_callTy call_int1 (by rfl) T.n_int (by decide +kernel) (pa_cons (pe_ix (r := rIxT K) ix_tup (pv 3) pe_int (fun _ _ => rfl)) pa_nil)))) pa_nil))) (pg_name (i := 2) sc__law_numbers_of.nd rfl (.inl rfl)) (pss_one (ps_if (pt_cmpR op_notIn_seq (pv 2) (pv 1) (by rfl)) (pss_one (ps_expr (pe_bm PySem.F.plainAttrs_list PySem.F.slot_list_append PySem.F.type_list_append mt_append (pv 1) (pa_cons (pv 2) pa_nil)))) pss_nil)))
      (pss_one (ps_ret (pv 1))))), ?_⟩
    refine q_asgL (xs := []) (el_lst ea_nil (by decide)) fun rr H1 nrr e1 hrr => ?_
    have el : EvL (tLc (iList K (tVar 0)) (gName 3) tYes (tCB (fun xs H Q => (∃ i, xs = [.int i] ∧ Q (.int i) H) ∨ ∃ k, xs = [.bl k] ∧ Q (.int (if k then 1 else 0)) H) (tCons (tOp (rIxT K) (tVar 3) (tC (.int 1))) tNil)) [3]) [some (V.ref p), some (.ref rr), none, none] H1 ((numsL ps).map V.int) := by
      have z := el_gen (K := K) (σ := [some (V.ref p), some (.ref rr), none, none]) (H := H1) (a := p) (ys := ps) (r := fun x => V.ref x.1) (f := fun x => V.int x.2.2.1) (tl := tVar 0) (te := tCB (fun xs H Q => (∃ i, xs = [.int i] ∧ Q (.int i) H) ∨ ∃ k, xs = [.bl k] ∧ Q (.int (if k then 1 else 0)) H) (tCons (tOp (rIxT K) (tVar 3) (tC (.int 1))) tNil)) (j := 3) (vs := [3]) (ev_var rfl) (e1 _ _ hp) (by omega) (fun _ => rfl) fun y my H2 e2 => ev_cb (ea_cons (ev_ixU (ev_var rfl) ((e1.trans e2) _ _ (lk y my)) rfl) ea_nil) fun H3 e3 Q q => .inl ⟨_, rfl, q H3 (Ex.refl H3)⟩
      unfold numsL
      rw [List.map_map]
      exact z
    have ln : (numsL ps).length = ps.length := by unfold numsL; rw [List.length_map]
    refine q_forCBL el fun pl H2 npl e2 hpl => ?_
    have rl : pl ≠ rr := fun e => by rw [e, hrr] at npl; cases npl
    refine ⟨pl, numsL ps, rfl, sq_of hpl, by rw [ln]; exact Nat.le_of_lt (sz_lt (by omega)), fun S st pm srt nst => ?_⟩
    have lS : S.length ≤ 200 := by rw [pm.length_eq, ln]; exact few
    have hst : (upd H2 st (.lst (S.map V.int))) st = some (.lst (S.map V.int)) := upd_same
    have e3 : Ex H2 (upd H2 st (.lst (S.map V.int))) := Ex.new nst
    have sr : st ≠ rr := fun e => by rw [e, e2 _ _ hrr] at nst; cases nst
    generalize upd H2 st (.lst (S.map V.int)) = H3 at hst e3
    refine ⟨st, rfl, ⟨_, sq_of hst⟩, for_list (K := K) (xs := S.map V.int) (fun i σ H' => ∃ (v2 v3 : Option V) (R : List Int), σ = [some (V.ref p), some (.ref rr), v2, v3] ∧ Ex H H' ∧ H' st = some (.lst (S.map V.int)) ∧ H' rr = some (.lst (R.map V.int)) ∧ R.length ≤ i ∧ R.Pairwise (· < ·) ∧ ∀ k, k ∈ R ↔ k ∈ S.take i)
      ⟨_, _, [], rfl, (e1.trans e2).trans e3, hst, e3 _ _ (e2 _ _ hrr), Nat.le_refl _, List.Pairwise.nil, fun k => by simp⟩ (fun i σ' H' _ ⟨_, _, _, _, _, h, _⟩ => sq_of h) ?_ ?_⟩
    · rintro i x σ H4 hi ⟨v2, v3, R, rfl, e4, hs4, hr4, lR, asc, mem⟩
      rw [List.getElem?_map] at hi
      obtain ⟨n, hn, rfl⟩ := Option.map_eq_some_iff.mp hi
      have li := (List.getElem?_eq_some_iff.mp hn).1
      have tk : S.take (i + 1) = S.take i ++ [n] := by rw [List.take_add_one, hn]; rfl
      dsimp only [gName]
      refine s_when (b := !decide (n ∈ R)) (et_test (ev_is (ev_op (ev_var rfl) (ev_var rfl) (rv_niL (sq_of hr4) rfl (flat_ints R))) (by rw [in_ints]))) (fun c H5 e5 => ?_) (fun c H5 e5 => ?_)
      · have c : n ∉ R := by simpa using c
        refine s_app (K := K) (v := .int n) (e5 _ _ hr4) (ev_var rfl) (ev_var rfl) (by rw [List.length_map]; omega) fun H6 e6 => ⟨_, _, R ++ [n], rfl, ((e4.trans e5).trans e6).mut nrr, by rw [upd_ne sr]; exact e6 _ _ (e5 _ _ hs4), by rw [upd_same, List.map_append]; rfl, by rw [List.length_append, List.length_singleton]; omega, ?_, fun k => ?_⟩
        · refine List.pairwise_append.mpr ⟨asc, List.pairwise_singleton _ _, fun a ha b hb => ?_⟩
          rw [List.mem_singleton.mp hb]
          have m := (mem a).mp ha
          obtain ⟨j, lj, ej⟩ := List.mem_iff_getElem.mp m
          have lj2 : j < i := by rw [List.length_take] at lj; omega
          rw [List.getElem_take] at ej
          have le := (List.pairwise_iff_getElem.mp srt) j i (by omega) li lj2
          rw [ej, (List.getElem?_eq_some_iff.mp hn).2] at le
          have ne : a ≠ n := fun e => c (by rw [← e]; exact ha)
          omega
        · rw [tk, List.mem_append, List.mem_append, mem k]
      · have c : n ∈ R := by simpa using c
        refine ⟨_, _, R, rfl, e4.trans e5, e5 _ _ hs4, e5 _ _ hr4, by omega, asc, fun k => ?_⟩
        rw [tk, List.mem_append, mem k]
        refine ⟨.inl, fun h => h.elim id fun h => ?_⟩
        rw [List.mem_singleton.mp h]
        exact (mem n).mp c
    · rintro σ H4 ⟨v2, v3, R, rfl, e4, hs4, hr4, lR, asc, mem⟩
      rw [List.length_map, List.take_length] at mem
      exact s_ret (ev_var rfl) fun H5 e5 => q R asc (fun k => by rw [mem k, pm.mem_iff]) rr H5 nrr (e4.trans e5) (e5 _ _ hr4)
/-- _law_ring_holds(numbers, rows, name, there, back) -/
def spHolds (K : PySem.W.Frag) : Sp := fun vs H Q _ => ∃ (ln lr a b : Addr) (es : List Rc) (last : Int) (z : Str) (ps qs : List PLk), vs = [.ref ln, .ref lr, .str z, .ref a, .ref b] ∧ TabAt H ln lr es ∧ EsOk es last ∧ isName z = true ∧ Sq2 K H a (lkRefs ps) ∧ Sq2 K H b (lkRefs qs) ∧ LksAt H ps ∧ LksAt H qs ∧ (∀ x ∈ ps, Txt8 50 x.2.2.2) ∧ (∀ x ∈ qs, Txt8 50 x.2.2.2) ∧
  ∀ H', Ex H H' → Q (.bl (chainL es (flip z) z (lks ps) && chainL es z (flip z) (lks qs))) H'
theorem ok__law_ring_holds (T : Txt P K mg) : FnOk P w K mg base CX0 4 T.f__law_ring_holds T.d__law_ring_holds ["_law_numbers_here", "_law_rows", "_law_name_here", "_law_there", "_law_back"] (spHolds K) := by
  refine T.F__law_ring_holds.ok sc__law_ring_holds (fun vs H Q E h => ?_) (fun cdv A outer s H vs Q E hr h => ?_)
  · obtain ⟨ln, lr, a, b, es, last, z, ps, qs, rfl, _⟩ := h
    rfl
  · obtain ⟨ln, lr, a, b, es, last, z, ps, qs, rfl, tab, o, nz, ha, hb, lp, lq, tp, tq, q⟩ := h
    refine ⟨_, (pss_cons (ps_if (pt_not (pt_val (pe_call (ok__law_is_chain T) (hr.mono (by decide)) rfl T.g__law_is_chain T.F__law_is_chain.kp T.b__law_is_chain .nil pass0 (pa_cons (pv 0) (pa_cons (pv 1) (pa_cons (pv 2) (pa_cons (pe_op op_add_str pe_str (pv 2)) (pa_cons (pv 3) pa_nil)))))))) (pss_one (ps_ret pe_bl)) pss_nil)
      (pss_one (ps_ret (pe_call (ok__law_is_chain T) (hr.mono (by decide)) rfl T.g__law_is_chain T.F__law_is_chain.kp T.b__law_is_chain .nil pass0 (pa_cons (pv 0) (pa_cons (pv 1) (pa_cons (pe_op op_add_str pe_str (pv 2)) (pa_cons (pv 2) (pa_cons (pv 4) pa_nil))))))))), ?_⟩
    have fz : flip z = "-" ++ z := flip_no (name_dash nz)
    have cat : ∀ {H0 : Hp}, Ev (tOp (fun x y H Q => ∃ i j, x = V.str i ∧ y = V.str j ∧ i.length + j.length ≤ sizeLine ∧ Q (V.str (i ++ j)) H) (tC (.str "-")) (tVar 2)) [some (V.ref ln), some (.ref lr), some (.str z), some (.ref a), some (.ref b)] H0 (.str (flip z)) := fun {H0} => by
      rw [fz]
      exact ev_catS ev_c (ev_var rfl) (by
        have : z.length ≤ 10 := (lit_txt (name_lit nz)).1
        have : ("-" : Str).length = 1 := by decide
        exact Nat.le_of_lt (sz_lt (by omega)))
    refine q_when (b := !chainL es (flip z) z (lks ps)) (et_not (et_B (ev_call (ea_cons (ev_var rfl) (ea_cons (ev_var rfl) (ea_cons (ev_var rfl) (ea_cons cat (ea_cons (ev_var rfl) ea_nil))))) fun H1 e1 Q q E => ⟨ln, lr, a, es, last, z, flip z, ps, rfl, tab.mono e1, o, ha.mono e1, lp.mono e1, tp, q⟩))) (fun c H2 e2 => ?_) fun c H2 e2 => ?_
    · have c : chainL es (flip z) z (lks ps) = false := by simpa using c
      refine s_ret ev_c fun H3 e3 => ?_
      have y := q H3 (e2.trans e3)
      rw [c] at y
      exact y
    · have c : chainL es (flip z) z (lks ps) = true := by simpa using c
      refine s_ret (ev_call (ea_cons (ev_var rfl) (ea_cons (ev_var rfl) (ea_cons cat (ea_cons (ev_var rfl) (ea_cons (ev_var rfl) ea_nil))))) fun H1 e1 Q q E => ⟨ln, lr, b, es, last, flip z, z, qs, rfl, tab.mono (e2.trans e1), o, hb.mono (e2.trans e1), lq.mono (e2.trans e1), tq, q⟩) fun H3 e3 => ?_
      have y := q H3 (e2.trans e3)
      rw [c] at y
      exact y
end
section
open Evl
theorem q_asgRaw {te : TE} {g : TG} {tz : TS} {D : Ends} {σ : L2.St} {H : Hp} (h : te σ H fun x H1 => g x σ H1 fun σ' H' => tz D σ' H') : tSeq (tAsg te g) tz D σ H := h
theorem tc_eq {x y : V} {σ : L2.St} {H : Hp} {Q : VK} (f : scal x y = true) (k : ∀ H1, Ex H H1 → Q (.bl (decide (x = y))) H1) : tC y σ H fun z H2 => rEq x z H2 Q := (rv_eq f) H (Ex.refl H) _ k
theorem mBars (T : Txt P K mg) : Meth K T.C_Ring "bars" T.f_Ring_bars := ⟨T.m_Ring_bars, T.i_Ring_bars, T.F_Ring_bars.kp⟩
theorem ty_ring (T : Txt P K mg) {H : Hp} {x dx : Addr} {fs : List (Str × V)} (h : H x = some (.ins T.C_Ring dx fs)) : TyX K H (.ref x) (.ref T.C_Ring) := .base (.ins h T.cl_Ring T.ins_Ring.ha T.ins_Ring.hn T.ins_Ring.htk T.ins_Ring.hm)
theorem ev_methR {C : Addr} {m : Str} {sp : Sp} {dvs vs : List V} {E : XK} {σ : L2.St} {H : Hp} {ta : TE} {t : TA} {a dx : Addr} {fs : List (Str × V)} {z : V} (h : Ev ta σ H (.ref a)) (hx : H a = some (.ins C dx fs)) (hm : fs.lookup m = none) (hA : EvA t σ H vs) (hs : SpV sp (.ref a :: (vs ++ dvs)) H z) : Ev (tMeth C m sp dvs E ta t) σ H z := fun H1 e Q q =>
  h H1 e _ fun H2 e2 => ⟨a, dx, fs, rfl, e2 _ _ (e _ _ hx), hm, hA H2 (e.trans e2) _ fun H3 e3 => hs H3 ((e.trans e2).trans e3) Q (fun H4 e4 => q H4 ((e2.trans e3).trans e4)) E⟩
theorem asc_put (ns : List Int) (h : ns.Pairwise (· < ·)) (k : Int) : ∃ ms : List Int, ms.Pairwise (· < ·) ∧ ∀ j, j ∈ ms ↔ j = k ∨ j ∈ ns := by
  induction ns with
  | nil => exact ⟨[k], List.pairwise_singleton _ _, fun j => by simp⟩
  | cons x r ih =>
    obtain ⟨p1, p2⟩ := List.pairwise_cons.mp h
    by_cases c : k ≤ x
    · by_cases c2 : k = x
      · exact ⟨x :: r, h, fun j => by rw [c2]; simp⟩
      · refine ⟨k :: x :: r, List.pairwise_cons.mpr ⟨fun y hy => ?_, h⟩, fun j => by simp⟩
        rcases List.mem_cons.mp hy with e | e
        · omega
        · have := p1 y e; omega
    · obtain ⟨ms, a, m⟩ := ih p2
      refine ⟨x :: ms, List.pairwise_cons.mpr ⟨fun y hy => ?_, a⟩, fun j => ?_⟩
      · rcases (m y).mp hy with e | e
        · omega
        · exact p1 y e
      · rw [List.mem_cons, m j, List.mem_cons]
        exact ⟨fun h => h.elim (fun h => .inr (.inl h)) fun h => h.elim .inl fun h => .inr (.inr h), fun h => h.elim (fun h => .inr (.inl h)) fun h => h.elim .inl fun h => .inr (.inr h)⟩
theorem asc_of (L : List Int) : ∃ ns : List Int, ns.Pairwise (· < ·) ∧ ∀ k, k ∈ ns ↔ k ∈ L := by
  induction L with
  | nil => exact ⟨[], .nil, fun k => Iff.rfl⟩
  | cons x r ih =>
    obtain ⟨ns, a, m⟩ := ih
    obtain ⟨ms, b, n⟩ := asc_put ns a x
    exact ⟨ms, b, fun k => by rw [n k, m k, List.mem_cons]⟩
theorem asc_len {ns D : List Int} (a : ns.Pairwise (· < ·)) (h : ∀ k ∈ ns, k ∈ D) : ns.length ≤ D.length := gen_len_le (a.imp fun h e => by omega) h
/-- the numbers of a ring -/
theorem eu_ring {CR : Addr} {σ : L2.St} {H : Hp} {te : TE} {r : Addr} {z : Str} {ps qs : List PLk} {D ns : List Int} {E : XK} (h : Ev te σ H (.ref r)) (R : RgAt CR H r z ps qs) (len : ps.length + qs.length ≤ 200) (sub : ∀ k ∈ numsL (ps ++ qs), k ∈ D) (d64 : D.length < 64) (asc : ns.Pairwise (· < ·)) (mem : ∀ k, k ∈ ns ↔ k ∈ numsL (ps ++ qs)) : EvU (tProp CR (spNums CR) [] E te) σ H (ns.map V.int) := fun H1 e1 Q q =>
  h H1 e1 _ fun H2 e2 => by
    have R2 := R.mono (e1.trans e2)
    obtain ⟨rdx, t, u, hr0, _⟩ := R2.at_
    refine ⟨r, rdx, _, rfl, hr0, r, z, ps, qs, D, rfl, R2, len, sub, d64, fun ns' asc' mem' H3 p np e3 hp => ?_⟩
    rw [asc_eq asc' asc fun k => by rw [mem' k, mem k]] at hp
    exact q p H3 (fresh_back e2 np) (e2.trans e3) hp
theorem el_listOf {σ : L2.St} {H : Hp} {te : TE} {a : Addr} {xs : List V} (h : Ev te σ H (.ref a)) (hx : Sq2 K H a xs) : EvL (tCB (fun xs H Q => ∃ p ys, xs = [.ref p] ∧ (SqL K H p ys ∨ SqT K H p ys) ∧ ∀ l, H l = none → Q (.ref l) (upd H l (.lst ys))) (tCons te tNil)) σ H xs := fun H1 e1 Q q =>
  h H1 e1 _ fun H2 e2 => ⟨a, xs, rfl, hx.mono (e1.trans e2), fun l nl => q l _ (fresh_back e2 nl) (e2.trans (Ex.new nl)) upd_same⟩
theorem el_numsOf {σ : L2.St} {H : Hp} {te : TE} {ps : List PLk} {ns : List Int} {E : XK} (h : EvLs te σ H (lkRefs ps)) (lk : LksAt H ps) (few : ps.length ≤ 200) (asc : ns.Pairwise (· < ·)) (mem : ∀ k, k ∈ ns ↔ k ∈ numsL ps) : EvL (tCall spNumsOf [] E (tCons te tNil)) σ H (ns.map V.int) := fun H1 e1 Q q =>
  h H1 e1 _ fun p H2 e2 hp => ⟨p, ps, rfl, hp, lk.mono (e1.trans e2), few, fun ns' asc' mem' r H3 nr e3 hr => by
    rw [asc_eq asc' asc fun k => by rw [mem' k, mem k]] at hr
    exact q r H3 (fresh_back e2 nr) (e2.trans e3) hr⟩
theorem chain_nums {es : List Rc} {g : Str} : ∀ {L : List Lk} {s : Str}, chainS es g s L = true → ∀ x ∈ L, x.2.1 ∈ es.map Rc.n
  | [], _, _, x, m => nomatch m
  | y :: r, s, h, x, m => by
    have h : (decide (y.1 = s) && (decide ((y.2.1, y.2.2) ∈ needsOf es s) && chainS es g y.2.2 r)) = true := h
    rw [Bool.and_eq_true, Bool.and_eq_true] at h
    rcases List.mem_cons.mp m with e | m
    · obtain ⟨e0, m0, e1, _⟩ := mem_needs.mp (of_decide_eq_true h.2.1)
      exact List.mem_map.mpr ⟨e0, m0, by rw [e, e1]⟩
    · exact chain_nums h.2.2 x m
theorem nums_app (ps qs : List PLk) : numsL (ps ++ qs) = numsL ps ++ numsL qs := by unfold numsL; rw [List.map_append]
theorem refs_app (ps qs : List PLk) : lkRefs (ps ++ qs) = lkRefs ps ++ lkRefs qs := by unfold lkRefs; rw [List.map_append]
theorem refs_len (ps : List PLk) : (lkRefs ps).length = ps.length := by unfold lkRefs; rw [List.length_map]
theorem LksAt.app {H : Hp} {ps qs : List PLk} (h : LksAt H ps) (g : LksAt H qs) : LksAt H (ps ++ qs) := fun x m => (List.mem_append.mp m).elim (h x) (g x)
/-- the book and the law's table of it -/
structure Wld (C CB : Addr) (H : Hp) (b dx d ln lr : Addr) (es : List Rc) (last : Int) (nms : List Str) : Prop where
  B : BkAt C CB H b dx d (es.map Rc.ent) last
  t : TabAt H ln lr es
  o : EsOk es last
  n12 : nms.length ≤ 12
  sub : ∀ e ∈ es, ∀ z ∈ e.R, bare z ∈ nms
  nam : ∀ z ∈ nms, isName z = true
theorem Wld.mono {C CB : Addr} {H H' : Hp} {b dx d ln lr : Addr} {es : List Rc} {last : Int} {nms : List Str} (w : Wld C CB H b dx d ln lr es last nms) (e : Ex H H') : Wld C CB H' b dx d ln lr es last nms := ⟨w.B.mono e, w.t.mono e, w.o, w.n12, w.sub, w.nam⟩
end
section
open Evl
theorem walk_bare {es : List Rc} {nms : List Str} {s : Str} (rows : ∀ e ∈ es, RowD e.R e.D) (sub : ∀ e ∈ es, ∀ z ∈ e.R, bare z ∈ nms) (sn : bare s ∈ nms) {z : Str} {n : Nat} (w : Walk (adN es) s z n) : bare z ∈ nms := by
  cases w with
  | zero => exact sn
  | step w hu =>
    unfold adN at hu
    obtain ⟨y, my, rfl⟩ := List.mem_map.mp hu
    exact need_bare rows sub (n := y.1) (c := y.2) my
theorem far_down {ad : Str → List Str} {s : Str} {W : List Wn} (f : Far ad s W) : ∀ (n : Nat) (z : Str), (z, n) ∈ W → ∀ k ≤ n, ∃ y, (y, k) ∈ W
  | 0, z, m, k, hk => ⟨z, by rw [show k = 0 by omega]; exact m⟩
  | n + 1, z, m, k, hk => by
    by_cases c : k = n + 1
    · exact ⟨z, by rw [c]; exact m⟩
    · have w := f.wk _ m
      cases w with
      | step w hu =>
        rename_i t
        obtain ⟨a, ha, le⟩ := f.near w
        obtain ⟨b, hb, le2⟩ := f.cl _ ha _ hu
        have e := fst_inj f.nd hb m
        have le2 : b ≤ a + 1 := le2
        have ea : a = n := by omega
        rw [ea] at ha
        exact far_down f n t ha k (by omega)
theorem far_dist {es : List Rc} {nms : List Str} {s : Str} {W : List Wn} (rows : ∀ e ∈ es, RowD e.R e.D) (sub : ∀ e ∈ es, ∀ z ∈ e.R, bare z ∈ nms) (sn : bare s ∈ nms) (f : Far (adN es) s W) {z : Str} {n : Nat} (m : (z, n) ∈ W) : n + 1 ≤ 2 * nms.length := by
  have l1 : n + 1 ≤ W.length := by
    have z := gen_len_le (l := List.range (n + 1)) (m := W.map (·.2)) List.nodup_range fun k hk => by
      obtain ⟨y, my⟩ := far_down f n z m k (by have := List.mem_range.mp hk; omega)
      exact List.mem_map.mpr ⟨_, my, rfl⟩
    rw [List.length_range, List.length_map] at z
    exact z
  exact Nat.le_trans l1 (far_len f.nd fun x mx => walk_bare rows sub sn (f.wk x mx))
/-- a ring's links, and what is known of them -/
structure RgOk (es : List Rc) (nms : List Str) (z : Str) (ps qs : List PLk) : Prop where
  nz : isName z = true
  mz : z ∈ nms
  c1 : chainS es (flip z) z (lks ps) = true
  c2 : chainS es z (flip z) (lks qs) = true
  l1 : ∀ x ∈ ps, isLit x.2.1 = true ∧ isLit x.2.2.2 = true
  l2 : ∀ x ∈ qs, isLit x.2.1 = true ∧ isLit x.2.2.2 = true
  n1 : ps.length + 1 ≤ 2 * nms.length
  n2 : qs.length + 1 ≤ 2 * nms.length
  pos : 0 < ps.length
theorem ps_pos {es : List Rc} {z : Str} {ps : List PLk} (nz : isName z = true) (c : chainS es (flip z) z (lks ps) = true) : 0 < ps.length := by
  cases h : ps with
  | nil =>
    rw [h] at c
    have g : z = flip z := of_decide_eq_true c
    have d1 := name_dash nz
    have e1 : flip z = "-" ++ z := flip_no d1
    rw [← g] at e1
    rw [e1] at d1
    have hd2 : dash ("-" ++ z) = true := by unfold dash; rw [minus_codes]; rfl
    rw [hd2] at d1
    cases d1
  | cons y r => exact Nat.succ_pos _
/-- no ring name -/
def Plain (es : List Rc) : Prop := ∀ N, Ord (allNames ((es.map Rc.ent).map (·.2))) N → N.filter (ringB es) = []
def FrOc (CR : Addr) (es : List Rc) (nms : List Str) (H H' : Hp) (v : V) : Prop := (v = .non ∧ Plain es) ∨ ∃ r z ps qs, v = .ref r ∧ H r = none ∧ RgAt CR H' r z ps qs ∧ RgOk es nms z ps qs
/-- first_ring(book) -/
def spFr (C CB CR : Addr) : Sp := fun vs H Q _ => ∃ (b dx d : Addr) (es : List Rc) (last : Int) (nms : List Str), vs = [.ref b] ∧ BkAt C CB H b dx d (es.map Rc.ent) last ∧ EsOk es last ∧ nms.length ≤ 13 ∧ (∀ e ∈ es, ∀ z ∈ e.R, bare z ∈ nms) ∧ ∀ H' v, Ex H H' → FrOc CR es nms H H' v → Q v H'
theorem ok_first_ring (T : Txt P K mg) : FnOk P w K mg base CX0 16 T.f_first_ring T.d_first_ring ["book"] (spFr T.C_Clause T.C_Book T.C_Ring) := by
  refine T.F_first_ring.ok sc_first_ring (fun vs H Q E h => ?_) (fun cdv A outer s H vs Q E hr h => ?_)
  · obtain ⟨b, dx, d, es, last, nms, rfl, _⟩ := h
    rfl
  · obtain ⟨b, dx, d, es, last, nms, rfl, B, o, n13, sub, q⟩ := h
    refine ⟨_, (pss_cons (ps_set (i := 1) sc_first_ring.nd rfl (.inl rfl) (pe_call (ok_ring_names T) (hr.mono (by decide)) rfl T.g_ring_names T.F_ring_names.kp T.b_ring_names .nil pass0 (pa_cons (pv 0) pa_nil)))
      (pss_cons (ps_if (pt_not (pt_truth (pv 1) (by intro _; rfl))) (pss_one (ps_ret pe_non)) pss_nil)
      (pss_one (ps_ret (pe_call (ok_ring_at T) (hr.mono (by decide)) rfl T.g_ring_at T.F_ring_at.kp T.b_ring_at .nil passN0 (pa_cons (pv 0) (pa_cons (pe_ix ix_list (pv 1) pe_int (fun _ _ => rfl)) pa_nil))))))), ?_⟩
    obtain ⟨N, od⟩ := ord_any (allNames ((es.map Rc.ent).map (·.2)))
    obtain ⟨F, hF⟩ : ∃ F, N.filter (ringB es) = F := ⟨_, rfl⟩
    refine q_asgL (xs := F.map V.str) (el_call (ea_cons (ev_var rfl) ea_nil) fun H1 e1 Q q E => ⟨b, dx, d, es, last, nms, rfl, B.mono e1, o, n13, sub, fun N' od' p H2 np e2 hp => by
      rw [od'.uniq od fun _ => Iff.rfl, hF] at hp
      exact q p H2 np e2 hp⟩) fun pf H1 npf e1 hpf => ?_
    have tr : EvT (fun σ H Q => tVar 1 σ H fun x H' => ∃ k, TruV K x H' k ∧ Q k H') [some (V.ref b), some (.ref pf)] H1 (!(F.map V.str).isEmpty) := fun H2 e2 Q q => ⟨_, rfl, _, .inl ⟨_, sq_of (e2 _ _ hpf), rfl⟩, q H2 (Ex.refl H2)⟩
    refine q_when (b := (F.map V.str).isEmpty) (et_is (et_not tr) (by simp)) (fun c H2 e2 => ?_) (fun c H2 e2 => ?_)
    · have e : F = [] := by simpa using c
      refine s_ret ev_c fun H3 e3 => q H3 .non ((e1.trans e2).trans e3) (.inl ⟨rfl, fun N' od' => ?_⟩)
      rw [od'.uniq od fun _ => Iff.rfl, hF, e]
    · have ne : F ≠ [] := by intro e; rw [e] at c; cases c
      obtain ⟨z, hz⟩ : ∃ z, F[0]? = some z := by
        cases h : F with
        | nil => exact absurd h ne
        | cons y r => exact ⟨y, rfl⟩
      have mF : z ∈ N.filter (ringB es) := by rw [hF]; exact List.mem_of_getElem? hz
      obtain ⟨mN, rB⟩ := List.mem_filter.mp mF
      have nz := nm_ord o.row od mN
      have mz : z ∈ nms := by
        have m := (od.mem z).mp mN
        rw [allNames_ent, List.mem_flatMap] at m
        obtain ⟨e, me, h⟩ := m
        obtain ⟨x, hx, rfl⟩ := List.mem_map.mp h
        exact sub e me x ((rowD (o.row e me) x).mp hx)
      have lz := name_lit nz
      have bz : bare z = z := bare_no (name_dash nz)
      have e12 := e1.trans e2
      refine ⟨.ref b, rfl, ?_⟩
      refine (ev_op (x := .ref pf) (y := .int 0) (ev_var rfl) ev_c (rv_ixL (sq_of (e2 _ _ hpf)) (atI_nat (j := 0) (v := .str z) (by rw [List.getElem?_map, hz]; rfl)))) H2 (Ex.refl H2) _ fun H3 e3 => ?_
      have e13 := e12.trans e3
      refine ⟨b, dx, d, es, last, z, nms, rfl, B.mono e13, o, (lit_txt lz).mono (by decide), n13, fun _ => mz, sub, fun no => absurd (nz.symm.trans no) (by simp), fun _ W1 W2 f1 f2 H4 v e4 oc => ?_⟩
      unfold ringB at rB
      rw [Bool.and_eq_true, ← far_reach f1, ← far_reach f2] at rB
      rcases oc with ⟨_, no⟩ | ⟨r, ps, qs, n1, n2, rfl, m1, m2, nr, R, G1, G2⟩
      · rcases no with h | h
        · obtain ⟨x, mx, ex⟩ := List.mem_map.mp (of_decide_eq_true rB.1)
          exact absurd (show (flip z, x.2) ∈ W1 by rw [← ex]; exact mx) (h x.2)
        · obtain ⟨x, mx, ex⟩ := List.mem_map.mp (of_decide_eq_true rB.2)
          exact absurd (show (z, x.2) ∈ W2 by rw [← ex]; exact mx) (h x.2)
      have d1 := far_dist o.row sub (by rw [bz]; exact mz) f1 m1
      have d2 := far_dist o.row sub (by rw [bare_flip lz, bz]; exact mz) f2 m2
      exact q H4 (.ref r) (e13.trans e4) (.inr ⟨r, z, ps, qs, rfl, fresh_back e13 nr, R, ⟨nz, mz, G1.2.2.1, G2.2.2.1, G1.2.2.2, G2.2.2.2, by rw [G1.1]; exact d1, by rw [G2.1]; exact d2, ps_pos nz G1.2.2.1⟩⟩)
end
section
open Evl
theorem sum6 {es : List Rc} (h : ∀ e ∈ es, RowD e.R e.D) : (rowNames (es.map Rc.row)).length ≤ 6 * es.length := by
  rw [rowNames_row]
  exact flat6 _ fun e m => by rw [List.length_map]; exact (h e m).1.few
/-- the i-th left out -/
def outI (es : List Rc) (i : Nat) : List Rc := es.take i ++ es.drop (i + 1)
theorem outI_sub {es : List Rc} {i : Nat} : (outI es i).Sublist es := by
  unfold outI
  have h : (es.take i ++ es.drop (i + 1)).Sublist (es.take i ++ es.drop i) := List.Sublist.append (List.Sublist.refl _) (by
    rw [← List.drop_drop]
    exact List.drop_sublist 1 _)
  rw [List.take_append_drop] at h
  exact h
theorem outI_mem {es : List Rc} {i : Nat} {e : Rc} (m : e ∈ outI es i) : e ∈ es := outI_sub.subset m
theorem without_at {es : List Rc} (nd : (es.map Rc.n).Nodup) {i : Nat} (hi : i < es.length) : without1 (es.map Rc.ent) (.inl es[i].n) = (outI es i).map Rc.ent := by
  have split : es = es.take i ++ es[i] :: es.drop (i + 1) := by
    rw [← List.drop_eq_getElem_cons hi, List.take_append_drop]
  have keep : ∀ l : List Rc, (∀ e ∈ l, e.n ≠ es[i].n) → (l.map Rc.ent).filter (fun q => decide (q.1 ≠ .inl es[i].n)) = l.map Rc.ent := fun l h => by
    refine List.filter_eq_self.mpr fun q mq => ?_
    obtain ⟨f, mf, rfl⟩ := List.mem_map.mp mq
    exact decide_eq_true fun z => h f mf (Sum.inl.inj z)
  have nd2 := nd
  rw [split, List.map_append, List.map_cons, List.nodup_append] at nd2
  obtain ⟨_, n2, n3⟩ := nd2
  have l1 : ∀ e ∈ es.take i, e.n ≠ es[i].n := fun e m => n3 _ (List.mem_map.mpr ⟨e, m, rfl⟩) _ List.mem_cons_self
  have l2 : ∀ e ∈ es.drop (i + 1), e.n ≠ es[i].n := fun e m h => (List.nodup_cons.mp n2).1 (by rw [← h]; exact List.mem_map.mpr ⟨e, m, rfl⟩)
  unfold without1 outI
  conv => lhs; rw [show es.map Rc.ent = (es.take i).map Rc.ent ++ es[i].ent :: (es.drop (i + 1)).map Rc.ent by conv => lhs; rw [split, List.map_append, List.map_cons]]
  rw [List.filter_append, keep _ l1, List.filter_cons_of_neg (by show ¬ decide _ = true; simp [Rc.ent]), keep _ l2, List.map_append]
theorem esok_out {es : List Rc} {last : Int} (o : EsOk es last) (i : Nat) : EsOk (outI es i) last := by
  have row : ∀ e ∈ outI es i, RowD e.R e.D := fun e m => o.row e (outI_mem m)
  have len : (outI es i).length ≤ es.length := outI_sub.length_le
  refine ⟨o.asc.sublist (outI_sub.map _), fun e m => o.rng e (outI_mem m), row, Nat.le_trans len o.few, ?_, o.l0, o.l9⟩
  have h := sum6 row
  have := o.few
  omega
end
section
open Evl
theorem ClsAt.bookN {C CB : Addr} {H H' : Hp} {b dx d : Addr} {n : Int} {cs : List (Addr × List Str)} (h : ClsAt C H cs) (hb : H b = some (.ins CB dx (bkF d n))) (B : ∀ c o, c ≠ b → H c = some o → H' c = some o) : ClsAt C H' cs := fun c m => by
  obtain ⟨⟨dy, p, h1, h2⟩, ok⟩ := h c m
  refine ⟨⟨dy, p, B _ _ (fun e => ?_) h1, B _ _ (fun e => ?_) h2⟩, ok⟩
  · rw [e, hb] at h1
    injection h1 with h1
    injection h1 with _ _ h1
    cases h1
  · rw [e, hb] at h2
    cases h2
theorem LksAt.bookN {CB : Addr} {H H' : Hp} {b dx d : Addr} {n : Int} {ps : List PLk} (h : LksAt H ps) (hb : H b = some (.ins CB dx (bkF d n))) (k1 : ∀ c o, c ≠ b → H c = some o → H' c = some o) : LksAt H' ps := fun x m => k1 _ _ (fun e => by
  have z := h x m
  rw [e, hb] at z
  cases z) (h x m)
theorem RgAt.bookN {CR CB : Addr} {H H' : Hp} {r b dx d : Addr} {n : Int} {z : Str} {ps qs : List PLk} (g : RgAt CR H r z ps qs) (hb : H b = some (.ins CB dx (bkF d n))) (k1 : ∀ c o, c ≠ b → H c = some o → H' c = some o) : RgAt CR H' r z ps qs := by
  obtain ⟨⟨dx, t, c, h1, h2, h3⟩, lp, lq⟩ := g
  refine ⟨⟨dx, t, c, k1 _ _ (fun e => ?_) h1, k1 _ _ (fun e => ?_) h2, k1 _ _ (fun e => ?_) h3⟩, lp.bookN hb k1, lq.bookN hb k1⟩
  · rw [e, hb] at h1
    injection h1 with h1
    injection h1 with _ _ h1
    unfold bkF rgF at h1
    injection h1 with _ h1
    injection h1 with _ h1
    cases h1
  · rw [e, hb] at h2; cases h2
  · rw [e, hb] at h3; cases h3
theorem mDropR (T : Txt P K mg) : Meth K T.C_Book "drop" T.f_Book_drop := ⟨T.m_Book_drop, T.i_Book_drop, T.F_Book_drop.kp⟩
theorem mCopyR (T : Txt P K mg) : Meth K T.C_Book "copy" T.f_Book_copy := ⟨T.m_Book_copy, T.i_Book_copy, T.F_Book_copy.kp⟩
/-- the clauses whose numbers are not among these -/
def lack (es : List Rc) (A : List Int) : List Rc := es.filter fun e => decide (e.n ∉ A)
theorem lack_mem {es : List Rc} {A : List Int} {e : Rc} : e ∈ lack es A ↔ e ∈ es ∧ e.n ∉ A := by
  unfold lack
  rw [List.mem_filter, decide_eq_true_eq]
theorem lack_nil (es : List Rc) : lack es [] = es := by
  unfold lack
  exact List.filter_eq_self.mpr fun e _ => decide_eq_true (by simp)
theorem lack_congr {es : List Rc} {A B : List Int} (h : ∀ k, k ∈ A ↔ k ∈ B) : lack es A = lack es B := by
  unfold lack
  congr 1
  funext e
  exact decide_eq_decide.mpr (not_congr (h e.n))
theorem lack_lack (es : List Rc) (A B : List Int) : lack (lack es A) B = lack es (A ++ B) := by
  unfold lack
  rw [List.filter_filter]
  congr 1
  funext e
  rw [← Bool.decide_and]
  exact decide_eq_decide.mpr ⟨fun ⟨h1, h2⟩ m => (List.mem_append.mp m).elim h2 h1, fun h => ⟨fun m => h (List.mem_append_right _ m), fun m => h (List.mem_append_left _ m)⟩⟩
theorem lack_sub (es : List Rc) (A : List Int) : (lack es A).Sublist es := List.filter_sublist
theorem esok_lack {es : List Rc} {last : Int} (o : EsOk es last) (A : List Int) : EsOk (lack es A) last := by
  have row : ∀ e ∈ lack es A, RowD e.R e.D := fun e m => o.row e (lack_mem.mp m).1
  have len : (lack es A).length ≤ es.length := (lack_sub es A).length_le
  refine ⟨o.asc.sublist ((lack_sub es A).map _), fun e m => o.rng e (lack_mem.mp m).1, row, Nat.le_trans len o.few, ?_, o.l0, o.l9⟩
  have h := sum6 row
  have := o.few
  omega
theorem without_lack (es : List Rc) (n : Int) : without1 (es.map Rc.ent) (.inl n) = (lack es [n]).map Rc.ent := by
  unfold without1 lack
  rw [List.filter_map]
  congr 1
  refine List.filter_congr fun e _ => ?_
  show decide (e.ent.1 ≠ .inl n) = decide (e.n ∉ [n])
  exact decide_eq_decide.mpr ⟨fun h m => h (by rw [show e.ent.1 = .inl e.n from rfl, List.mem_singleton.mp m]), fun h e1 => h (List.mem_singleton.mpr (Sum.inl.inj e1))⟩
theorem needs_lack {es : List Rc} {A : List Int} {z : Str} {y : Int × Str} (h : y ∈ needsOf (lack es A) z) : y ∈ needsOf es z := by
  obtain ⟨n, c⟩ := y
  obtain ⟨e, m, h1, h2⟩ := mem_needs.mp h
  exact mem_needs.mpr ⟨e, (lack_mem.mp m).1, h1, h2⟩
theorem chain_lack {es : List Rc} {A : List Int} {g : Str} : ∀ {L : List Lk} {s : Str}, chainS (lack es A) g s L = true → chainS es g s L = true
  | [], _, h => h
  | y :: r, s, h => by
    have h : (decide (y.1 = s) && (decide ((y.2.1, y.2.2) ∈ needsOf (lack es A) s) && chainS (lack es A) g y.2.2 r)) = true := h
    rw [Bool.and_eq_true, Bool.and_eq_true] at h
    show (decide (y.1 = s) && (decide ((y.2.1, y.2.2) ∈ needsOf es s) && chainS es g y.2.2 r)) = true
    rw [h.1, decide_eq_true (needs_lack (of_decide_eq_true h.2.1)), chain_lack h.2.2]
    rfl
theorem RgOk.lack {es : List Rc} {A : List Int} {nms : List Str} {z : Str} {ps qs : List PLk} (k : RgOk (lack es A) nms z ps qs) : RgOk es nms z ps qs := ⟨k.nz, k.mz, chain_lack k.c1, chain_lack k.c2, k.l1, k.l2, k.n1, k.n2, k.pos⟩
theorem rg_nums {es : List Rc} {nms : List Str} {z : Str} {ps qs : List PLk} (k : RgOk es nms z ps qs) : ∀ n ∈ numsL (ps ++ qs), n ∈ es.map Rc.n := fun n hn => by
  rw [nums_app] at hn
  rcases List.mem_append.mp hn with m | m
  · unfold numsL at m
    obtain ⟨x, mx, rfl⟩ := List.mem_map.mp m
    exact chain_nums k.c1 x.2 (by unfold lks; exact List.mem_map.mpr ⟨x, mx, rfl⟩)
  · unfold numsL at m
    obtain ⟨x, mx, rfl⟩ := List.mem_map.mp m
    exact chain_nums k.c2 x.2 (by unfold lks; exact List.mem_map.mpr ⟨x, mx, rfl⟩)
/-- a ring that was found -/
structure Rg where
  r : Addr
  z : Str
  ps : List PLk
  qs : List PLk
def Rg.ns (g : Rg) : List Int := numsL (g.ps ++ g.qs)
def allNs (G : List Rg) : List Int := G.flatMap Rg.ns
theorem allNs_app (G : List Rg) (g : Rg) : allNs (G ++ [g]) = allNs G ++ g.ns := by
  unfold allNs
  rw [List.flatMap_append, List.flatMap_cons, List.flatMap_nil, List.append_nil]
structure RgsAt (CR : Addr) (es : List Rc) (nms : List Str) (H : Hp) (G : List Rg) : Prop where
  at_ : ∀ g ∈ G, RgAt CR H g.r g.z g.ps g.qs
  ok : ∀ g ∈ G, RgOk es nms g.z g.ps g.qs
  apart : G.Pairwise fun g h => ∀ k ∈ g.ns, k ∉ h.ns
theorem RgsAt.mono {CR : Addr} {es : List Rc} {nms : List Str} {H H' : Hp} {G : List Rg} (x : RgsAt CR es nms H G) (e : Ex H H') : RgsAt CR es nms H' G := ⟨fun g m => (x.at_ g m).mono e, x.ok, x.apart⟩
theorem RgsAt.bookN {CR CB : Addr} {es : List Rc} {nms : List Str} {H H' : Hp} {b dx d : Addr} {n : Int} {G : List Rg} (x : RgsAt CR es nms H G) (hb : H b = some (.ins CB dx (bkF d n))) (k1 : ∀ c o, c ≠ b → H c = some o → H' c = some o) : RgsAt CR es nms H' G := ⟨fun g m => (x.at_ g m).bookN hb k1, x.ok, x.apart⟩
theorem RgAt.putL {CR : Addr} {H : Hp} {r p : Addr} {z : Str} {ps qs : List PLk} {xs ys : List V} (g : RgAt CR H r z ps qs) (hp : H p = some (.lst xs)) : RgAt CR (upd H p (.lst ys)) r z ps qs := by
  obtain ⟨⟨dx, t, b, h1, h2, h3⟩, lp, lq⟩ := g
  have off : ∀ {c : Addr} {o : HO}, H c = some o → (∀ xs, o ≠ .lst xs) → (upd H p (.lst ys)) c = some o := fun {c o} h no => by
    rw [upd_ne (fun e => by rw [e, hp] at h; exact no _ (Option.some.inj h).symm)]; exact h
  exact ⟨⟨dx, t, b, off h1 (by simp), off h2 (by simp), off h3 (by simp)⟩, fun x m => off (lp x m) (by simp), fun x m => off (lq x m) (by simp)⟩
theorem BkAt.putL {C CB : Addr} {H : Hp} {b dx d p : Addr} {ps : List Ent} {last : Int} {xs ys : List V} (h : BkAt C CB H b dx d ps last) (hp : H p = some (.lst xs)) : BkAt C CB (upd H p (.lst ys)) b dx d ps last := by
  have off : ∀ {c : Addr} {o : HO}, H c = some o → (∀ xs, o ≠ .lst xs) → (upd H p (.lst ys)) c = some o := fun {c o} h no => by
    rw [upd_ne (fun e => by rw [e, hp] at h; exact no _ (Option.some.inj h).symm)]; exact h
  refine ⟨off h.at_ (by simp), off h.di (by simp), fun c m => ?_⟩
  obtain ⟨⟨dy, q, h1, h2⟩, ok⟩ := h.cls c m
  exact ⟨⟨dy, q, off h1 (by simp), off h2 (by simp)⟩, ok⟩
theorem q_forU {te : TE} {g : TG} {tu tz : TS} {D : Ends} {σ : L2.St} {H : Hp} {xs : List V} (h : EvU te σ H xs) (k : ∀ p H1, H p = none → Ex H H1 → H1 p = some (.tup xs) → ∃ Pv : Nat → L2.St → Hp → Prop, Pv 0 σ H1 ∧ (∀ i σ' H', i ≤ xs.length → Pv i σ' H' → H' p = some (.tup xs)) ∧
    (∀ i x σ' H', xs[i]? = some x → Pv i σ' H' → g x σ' H' fun σ2 H2 => tu { D with nx := Pv (i + 1), ct := Pv (i + 1), bk := tz D } σ2 H2) ∧ (∀ σ' H', Pv xs.length σ' H' → tz D σ' H')) : tSeq (tFor (iTup K te) g tu) tz D σ H :=
  h H (Ex.refl H) _ fun p H1 np e hp => let ⟨Pv, h0, hl, hs, hd⟩ := k p H1 np e hp; ⟨p, rfl, ⟨xs, st_of hp⟩, for_tup (D := { D with nx := tz D }) Pv h0 (fun i σ' H' l q => st_of (hl i σ' H' l q)) hs hd⟩
theorem s_asgRaw {te : TE} {g : TG} {D : Ends} {σ : L2.St} {H : Hp} (h : te σ H fun x H1 => g x σ H1 D.nx) : tAsg te g D σ H := h
/-- apart_rings(book) -/
def spApart (C CB CR : Addr) : Sp := fun vs H Q _ => ∃ (b dx d : Addr) (es : List Rc) (last : Int) (nms : List Str), vs = [.ref b] ∧ BkAt C CB H b dx d (es.map Rc.ent) last ∧ EsOk es last ∧ nms.length ≤ 8 ∧ (∀ e ∈ es, ∀ z ∈ e.R, bare z ∈ nms) ∧ ∀ H' p G, Ex H H' → H p = none → H' p = some (.lst (G.map fun g => V.ref g.r)) → RgsAt CR es nms H' G → G.length ≤ es.length → Plain (lack es (allNs G)) → Q (.ref p) H'
theorem ok_apart_rings (T : Txt P K mg) : FnOk P w K mg base CX0 17 T.f_apart_rings T.d_apart_rings ["book"] (spApart T.C_Clause T.C_Book T.C_Ring) := by
  refine T.F_apart_rings.ok sc_apart_rings (fun vs H Q E h => ?_) (fun cdv A outer s H vs Q E hr h => ?_)
  · obtain ⟨b, dx, d, es, last, nms, rfl, _⟩ := h
    rfl
  · obtain ⟨b, dx, d, es, last, nms, rfl, B, o, n8, sub, q⟩ := h
    refine ⟨_, (pss_cons (ps_set (i := 1) sc_apart_rings.nd rfl (.inl rfl) (pe_meth0 (pv 0) T.cl_Book (mCopyR T) (ok_Book_copy T) (hr.mono (by decide)) T.b_Book_copy .nil pass0))
      (pss_cons (ps_set (i := 2) sc_apart_rings.nd rfl (.inl rfl) (pe_lst pa_nil))
      (pss_cons (ps_set (i := 3) sc_apart_rings.nd rfl (.inl rfl) (pe_call (ok_first_ring T) (hr.mono (by decide)) rfl T.g_first_ring T.F_first_ring.kp T.b_first_ring .nil pass0 (pa_cons (pv 1) pa_nil)))
      (pss_cons (ps_while PassesOwn.never (pt_cmpR op_notN (pv 3) pe_non (nomark _)) (pss_cons (ps_expr (pe_bm PySem.F.plainAttrs_list PySem.F.slot_list_append PySem.F.type_list_append mt_append (pv 2) (pa_cons (pv 3) pa_nil)))
        (pss_cons (ps_for PassesOwn.never rfl (pi_tup (pe_prop (pv 3) T.cl_Ring T.P_Ring_numbers (ok_Ring_numbers T) (hr.mono (by decide)) T.b_Ring_numbers .nil pass0 (by rfl))) (pg_name (i := 4) sc_apart_rings.nd rfl (.inl rfl)) (pss_one (ps_expr (pe_meth (pv 1) T.cl_Book (mDropR T) (ok_Book_drop T) (hr.mono (by decide)) T.b_Book_drop .nil passN0 (pa_cons (pv 4) pa_nil)))))
        (pss_one (ps_set (i := 3) sc_apart_rings.nd rfl (.inl rfl) (pe_call (ok_first_ring T) (hr.mono (by decide)) rfl T.g_first_ring T.F_first_ring.kp T.b_first_ring .nil pass0 (pa_cons (pv 1) pa_nil)))))))
      (pss_one (ps_ret (pv 2))))))), ?_⟩
    have f24 := o.few
    refine q_asgRaw ⟨.ref b, rfl, b, dx, _, rfl, B.at_, rfl, b, dx, d, last, rfl, B.at_, fun H1 c dy e1 nc hc => ?_⟩
    dsimp only [gName]
    have Bc : BkAt T.C_Clause T.C_Book H1 c dy d ((lack es []).map Rc.ent) last := by
      rw [lack_nil]
      exact ⟨hc, e1 _ _ B.di, (B.mono e1).cls⟩
    refine q_asgL (xs := []) (el_lst ea_nil (by decide)) fun pr H2 npr e2 hpr => ?_
    have npr0 : H pr = none := fresh_back e1 npr
    have Bc2 := Bc.mono e2
    have e12 := e1.trans e2
    have n13 : nms.length ≤ 13 := by omega
    refine q_asgRaw ⟨.ref c, rfl, c, dy, d, lack es [], last, nms, rfl, Bc2, esok_lack o _, n13, fun e m => sub e (lack_mem.mp m).1, fun H3 v3 e3 oc => ?_⟩
    dsimp only [gName]
    have e13 := e12.trans e3
    refine q_while (fun m σ' H' => ∃ (v : V) (v4 : Option V) (G : List Rg) (d' : Addr) (Hf : Hp), σ' = [some (V.ref b), some (.ref c), some (.ref pr), some v, v4] ∧ m = (lack es (allNs G)).length ∧ Ex H H' ∧ H' pr = some (.lst (G.map fun g => V.ref g.r)) ∧ RgsAt T.C_Ring es nms H' G ∧ G.length + (lack es (allNs G)).length ≤ es.length ∧ BkAt T.C_Clause T.C_Book H' c dy d' ((lack es (allNs G)).map Rc.ent) last ∧ FrOc T.C_Ring (lack es (allNs G)) nms Hf H' v) es.length
      ⟨v3, none, [], d, H2, rfl, by rw [show allNs [] = [] from rfl, lack_nil], e13, e3 _ _ hpr, ⟨(fun g m => nomatch m), (fun g m => nomatch m), .nil⟩, by rw [show allNs [] = [] from rfl, lack_nil]; simp, Bc2.mono e3, oc⟩ ?_
    rintro m σ' H4 ⟨v, v4, G, d4, Hf, rfl, rfl, e4, hp4, X4, len4, B4, oc4⟩
    generalize hes : lack es (allNs G) = es4 at len4 B4 oc4
    rcases oc4 with ⟨rfl, pl⟩ | ⟨r, z, ps, qs, rfl, nr, R, k⟩
    · refine ⟨false, et_is (et_test (ev_op (x := .non) (y := .non) (ev_var rfl) ev_c (fun H1 _ Q q => ⟨rfl, q H1 (Ex.refl H1)⟩))) (by simp), fun h => Bool.noConfusion h, fun _ H5 e5 => ?_⟩
      refine s_ret (ev_var rfl) fun H6 e6 => q H6 pr G (e4.trans (e5.trans e6)) npr0 ((e5.trans e6) _ _ hp4) (X4.mono (e5.trans e6)) (by omega) ?_
      rw [hes]; exact pl
    · refine ⟨true, et_is (et_test (ev_op (x := .ref r) (y := .non) (ev_var rfl) ev_c (fun H1 _ Q q => ⟨rfl, q H1 (Ex.refl H1)⟩))) (by simp), fun _ H5 e5 => ?_, fun h => Bool.noConfusion h⟩
      have e45 := e4.trans e5
      have hp5 := e5 _ _ hp4
      have lG : G.length ≤ 24 := by omega
      obtain ⟨g, hg⟩ : ∃ g : Rg, g = ⟨r, z, ps, qs⟩ := ⟨_, rfl⟩
      have k1 := k.n1
      have k2 := k.n2
      refine ⟨_, fun σ2 H2 h => h, ?_⟩
      refine q_app (K := K) (v := .ref r) hp5 (ev_var rfl) (ev_var rfl) (by rw [List.length_map]; omega) fun H6 e6 => ?_
      have hp6 := e6 _ _ hp5
      have e06 := (e45.trans e6)
      have X7 : RgsAt T.C_Ring es nms (upd H6 pr (.lst ((G.map fun g => V.ref g.r) ++ [.ref r]))) G := ⟨fun g0 m => ((X4.mono (e5.trans e6)).at_ g0 m).putL hp6, X4.ok, X4.apart⟩
      have R7 := ((R.mono (e5.trans e6)).putL (ys := (G.map fun g => V.ref g.r) ++ [.ref r]) hp6)
      have B7 := ((B4.mono (e5.trans e6)).putL (ys := (G.map fun g => V.ref g.r) ++ [.ref r]) hp6)
      have e07 : Ex H (upd H6 pr (.lst ((G.map fun g => V.ref g.r) ++ [.ref r]))) := e06.mut npr0
      have hp7 : (upd H6 pr (.lst ((G.map fun g => V.ref g.r) ++ [.ref r]))) pr = some (.lst ((G ++ [g]).map fun g => V.ref g.r)) := by rw [upd_same, List.map_append, hg]; rfl
      generalize upd H6 pr (.lst ((G.map fun g => V.ref g.r) ++ [.ref r])) = H7 at X7 R7 B7 e07 hp7
      obtain ⟨ns, asc, mem⟩ := asc_of (numsL (ps ++ qs))
      have subD := rg_nums k
      have es4e : es4.length ≤ 24 := by omega
      refine q_forU (K := K) (eu_ring (ev_var rfl) R7 (by omega) subD (by rw [List.length_map]; omega) asc mem) fun pn H8 npn e8 hpn => ⟨fun i σ' H' => ∃ (v4 : Option V) (d' : Addr), σ' = [some (V.ref b), some (.ref c), some (.ref pr), some (.ref r), v4] ∧ Ex H H' ∧ H' pr = some (.lst ((G ++ [g]).map fun g => V.ref g.r)) ∧ H' pn = some (.tup (ns.map V.int)) ∧ RgsAt T.C_Ring es nms H' G ∧ RgAt T.C_Ring H' r z ps qs ∧ BkAt T.C_Clause T.C_Book H' c dy d' ((lack es4 (ns.take i)).map Rc.ent) last,
        ⟨_, d4, rfl, e07.trans e8, e8 _ _ hp7, hpn, X7.mono e8, R7.mono e8, by rw [List.take_zero, lack_nil]; exact B7.mono e8⟩, fun i σ' H' _ ⟨_, _, _, _, _, h, _⟩ => h, ?_, ?_⟩
      · rintro i x σ' H9 hi ⟨v4', d9, rfl, e9, hp9, hpn9, X9, R9, B9⟩
        rw [List.getElem?_map] at hi
        obtain ⟨n, hn, rfl⟩ := Option.map_eq_some_iff.mp hi
        have li := (List.getElem?_eq_some_iff.mp hn).1
        have en := (List.getElem?_eq_some_iff.mp hn).2
        have mn : n ∈ ns := List.mem_of_getElem? hn
        have o9 : EsOk (lack es4 (ns.take i)) last := esok_lack (by rw [← hes]; exact esok_lack o _) _
        have nin : n ∉ ns.take i := fun m => by
          obtain ⟨j, lj, ej⟩ := List.mem_iff_getElem.mp m
          have lj2 : j < i := by rw [List.length_take] at lj; omega
          rw [List.getElem_take] at ej
          have lt := (List.pairwise_iff_getElem.mp asc) j i (by omega) li lj2
          omega
        obtain ⟨e0, me0, en0⟩ := List.mem_map.mp (subD n ((mem n).mp mn))
        have me9 : e0 ∈ lack es4 (ns.take i) := lack_mem.mpr ⟨me0, by rw [en0]; exact nin⟩
        have l24 : (lack es4 (ns.take i)).length ≤ 24 := o9.few
        dsimp only [gName]
        refine ⟨_, rfl, c, dy, _, rfl, B9.at_, rfl, _, rfl, c, dy, d9, n, (lack es4 (ns.take i)).map Rc.ent, last, rfl, by rw [← en0]; exact o9.txt me9, B9, o9.keyNd, fun p m => (by
          obtain ⟨f, _, rfl⟩ := List.mem_map.mp m
          exact ⟨f.n, rfl⟩), by rw [List.length_map]; omega, fun p mp eq Ha da m1 nda m3 m4 => ?_, fun no => absurd (List.mem_map.mpr ⟨e0.ent, List.mem_map.mpr ⟨e0, me9, rfl⟩, by rw [← en0]; rfl⟩) no⟩
        have tk : ns.take (i + 1) = ns.take i ++ [n] := by rw [List.take_add_one, hn]; rfl
        rw [without_lack, lack_lack, ← tk] at m4
        refine ⟨_, da, rfl, fun a o h => m1 _ _ (fun e => by rw [e, nc] at h; cases h) (e9 _ _ h), m1 _ _ (fun e => by rw [e, B9.at_] at hp9; cases hp9) hp9, m1 _ _ (fun e => by rw [e, B9.at_] at hpn9; cases hpn9) hpn9, X9.bookN B9.at_ m1, R9.bookN B9.at_ m1, ⟨m3, m4, fun q1 mq => ?_⟩⟩
        obtain ⟨f0, mf, rfl⟩ := List.mem_map.mp mq
        obtain ⟨f, mf2, rfl⟩ := List.mem_map.mp mf
        have mf3 : f ∈ lack es4 (ns.take i) := lack_mem.mpr ⟨(lack_mem.mp mf2).1, fun m => (lack_mem.mp mf2).2 (by rw [tk]; exact List.mem_append_left _ m)⟩
        exact (B9.cls.bookN B9.at_ m1) f.ent.2 (List.mem_map.mpr ⟨f.ent, List.mem_map.mpr ⟨f, mf3, rfl⟩, rfl⟩)
      · rintro σ' H9 ⟨v4', d9, rfl, e9, hp9, hpn9, X9, R9, B9⟩
        rw [List.length_map, List.take_length] at B9
        have gns : ∀ n, n ∈ ns ↔ n ∈ g.ns := fun n => by rw [hg]; exact mem n
        have same : lack es4 ns = lack es (allNs (G ++ [g])) := by
          rw [lack_congr gns, ← hes, lack_lack, allNs_app]
        have o9 : EsOk (lack es4 ns) last := esok_lack (by rw [← hes]; exact esok_lack o _) _
        have shorter : (lack es4 ns).length < es4.length := by
          obtain ⟨y, hy⟩ : ∃ y, y ∈ ps := by
            cases h : ps with
            | nil => have := k.pos; rw [h] at this; exact absurd this (Nat.lt_irrefl 0)
            | cons y _ => exact ⟨y, List.mem_cons_self⟩
          have mn : y.2.2.1 ∈ numsL (ps ++ qs) := by unfold numsL; exact List.mem_map.mpr ⟨y, List.mem_append_left _ hy, rfl⟩
          obtain ⟨e0, me0, en0⟩ := List.mem_map.mp (subD _ mn)
          have le := (lack_sub es4 ns).length_le
          rcases Nat.lt_or_ge (lack es4 ns).length es4.length with h | h
          · exact h
          · have eq := (lack_sub es4 ns).eq_of_length (by omega)
            have m : e0 ∈ lack es4 ns := by rw [eq]; exact me0
            exact absurd ((mem _).mpr (by rw [en0]; exact mn)) (lack_mem.mp m).2
        refine s_asgRaw ⟨.ref c, rfl, c, dy, d9, lack es4 ns, last, nms, rfl, B9, o9, n13, fun e m => ?_, fun Ha va ea oca => ?_⟩
        · have m1 := (lack_mem.mp m).1
          rw [← hes] at m1
          exact sub e (lack_mem.mp m1).1
        refine ⟨(lack es (allNs (G ++ [g]))).length, by rw [← same]; exact shorter, va, v4', G ++ [g], d9, H9, rfl, rfl, e9.trans ea, ea _ _ hp9, ⟨fun g0 m => ?_, fun g0 m => ?_, ?_⟩, by rw [← same, List.length_append, List.length_singleton]; omega, by rw [← same]; exact B9.mono ea, by rw [← same]; exact oca⟩
        · rcases List.mem_append.mp m with m | m
          · exact (X9.at_ g0 m).mono ea
          · rw [List.mem_singleton.mp m, hg]; exact R9.mono ea
        · rcases List.mem_append.mp m with m | m
          · exact X9.ok g0 m
          · rw [List.mem_singleton.mp m, hg]
            rw [← hes] at k
            exact k.lack
        · refine List.pairwise_append.mpr ⟨X9.apart, List.pairwise_singleton _ _, fun g0 m0 g1 m1 n hn0 hn1 => ?_⟩
          rw [List.mem_singleton.mp m1] at hn1
          obtain ⟨e0, me0, en0⟩ := List.mem_map.mp (subD n ((mem n).mp ((gns n).mpr hn1)))
          rw [← hes] at me0
          refine (lack_mem.mp me0).2 ?_
          rw [en0]
          exact List.mem_flatMap.mpr ⟨g0, m0, hn0⟩
end
section
open Evl
/-- _law_ring(book, numbers, rows, ring) -/
def spLRing (C CB CR : Addr) : Sp := fun vs H Q _ => ∃ (b dx d ln lr r : Addr) (es : List Rc) (last : Int) (nms : List Str) (z : Str) (ps qs : List PLk), vs = [.ref b, .ref ln, .ref lr, .ref r] ∧ Wld C CB H b dx d ln lr es last nms ∧ RgAt CR H r z ps qs ∧ RgOk es nms z ps qs ∧ nms.length ≤ 8 ∧ ∀ H', Ex H H' → Q (.bl true) H'
theorem ok__law_ring (T : Txt P K mg) : FnOk P w K mg base CX0 16 T.f__law_ring T.d__law_ring ["_law_book_here", "_law_numbers_here", "_law_rows", "_law_ring_here"] (spLRing T.C_Clause T.C_Book T.C_Ring) := by
  refine T.F__law_ring.ok sc__law_ring (fun vs H Q E h => ?_) (fun cdv A outer s H vs Q E hr h => ?_)
  · obtain ⟨b, dx, d, ln, lr, r, es, last, nms, z, ps, qs, rfl, _⟩ := h
    rfl
  · obtain ⟨b, dx, d, ln, lr, r, es, last, nms, z, ps, qs, rfl, w, R, k, n8, q⟩ := h
    refine ⟨_, (pss_cons (ps_if (PW.pt (pw_or (pt_not (pt_val (pe_callB call_isi (by rfl) T.n_isinstance (by decide +kernel) (pa_cons (pv 3) (pa_cons (pe_glob (v := .ref T.C_Ring) rfl T.g_Ring rfl) pa_nil))))) (pw_or1 (pt_not (pt_val (pe_callB call_isi (by rfl) T.n_isinstance (by decide +kernel) (pa_cons (pe_fld (pv 3) rfl) (pa_cons (pe_bltn (v := .ty "str") (u := .type "str") (by rfl) T.n_str (by decide +kernel) rfl) pa_nil)))))))) (pss_one (ps_ret pe_bl)) pss_nil)
      (pss_cons (ps_if (PW.pt (pw_or (pt_not (pt_val (pe_callB call_isi (by rfl) T.n_isinstance (by decide +kernel) (pa_cons (pe_fld (pv 3) rfl) (pa_cons (pe_bltn (v := .ty "tuple") (u := .type "tuple") (by rfl) T.n_tuple (by decide +kernel) rfl) pa_nil))))) (pw_or1 (pt_not (pt_val (pe_callB call_isi (by rfl) T.n_isinstance (by decide +kernel) (pa_cons (pe_fld (pv 3) rfl) (pa_cons (pe_bltn (v := .ty "tuple") (u := .type "tuple") (by rfl) T.n_tuple (by decide +kernel) rfl) pa_nil)))))))) (pss_one (ps_ret pe_bl)) pss_nil)
      (pss_cons (ps_if (PW.pt (pw_or (pt_cmpR op_gt (pe_callB call_len_seq (by rfl) T.n_len PySem.boot_len (pa_cons (pe_fld (pv 3) rfl) pa_nil)) pe_int (by rfl)) (pw_or1 (pt_cmpR op_gt (pe_callB call_len_seq (by rfl) T.n_len PySem.boot_len (pa_cons (pe_fld (pv 3) rfl) pa_nil)) pe_int (by rfl))))) (pss_one (ps_ret pe_bl)) pss_nil)
      (pss_cons (ps_if (pt_not (pt_val (pe_call (ok__law_ring_holds T) (hr.mono (by decide)) rfl T.g__law_ring_holds T.F__law_ring_holds.kp T.b__law_ring_holds .nil pass0 (pa_cons (pv 1) (pa_cons (pv 2) (pa_cons (pe_fld (pv 3) rfl) (pa_cons (pe_fld (pv 3) rfl) (pa_cons (pe_fld (pv 3) rfl) pa_nil)))))))) (pss_one (ps_ret pe_bl)) pss_nil)
      (pss_one (ps_ret (pe_call (okN__law_same T 2) (hr.mono (by decide)) rfl T.g__law_same T.F__law_same.kp T.b__law_same .nil pass0 (pa_cons (pe_meth (pv 3) T.cl_Ring (mBars T) (ok_Ring_bars T) (hr.mono (by decide)) T.b_Ring_bars .nil pass0 (pa_cons (pv 0) pa_nil)) (pa_cons pe_bl pa_nil))))))))), ?_⟩
    have nz := k.nz
    have lz := name_lit nz
    have lf := flip_lit lz
    have k1 := k.n1
    have k2 := k.n2
    obtain ⟨rdx, t, u, hr0, ht, hu⟩ := R.at_
    refine q_when (b := false) (et_is (et_or (et_not (et_B (ev_cb (ea_cons (ev_var rfl) (ea_cons ev_c ea_nil)) fun H1 e1 Q' q' => ⟨.ref r, .ref T.C_Ring, .ref T.C_Ring, .ref T.C_Ring, true, rfl, .own _, ty_ring T (e1 _ _ hr0), T.ins_Ring.me, q' H1 (Ex.refl H1)⟩))) (fun _ => et_not (et_B (ev_isi (ev_fld (ev_var rfl) hr0 T.cl_Ring T.na_Ring_name rfl) (fun _ => .base (.str _)) (show kitB "str" "str" = some true by decide +kernel))))) rfl) (fun c => by cases c) (fun _ H7 e7 => ?_)
    have hr7 := e7 _ _ hr0
    have ht7 := e7 _ _ ht
    have hu7 := e7 _ _ hu
    have kt : kitB "tuple" "tuple" = some true := by decide +kernel
    refine q_when (b := false) (et_is (et_or (et_not (et_B (ev_isU (ev_fld (ev_var rfl) hr7 T.cl_Ring T.na_Ring_there rfl) ht7 kt))) (fun _ => et_not (et_B (ev_isU (ev_fld (ev_var rfl) hr7 T.cl_Ring T.na_Ring_back rfl) hu7 kt)))) rfl) (fun c => by cases c) (fun _ H8 e8 => ?_)
    have hr8 := e8 _ _ hr7
    have ht8 := e8 _ _ ht7
    have hu8 := e8 _ _ hu7
    have l1 : ((lkRefs ps).length : Int) = (ps.length : Int) := by rw [refs_len]
    have l2 : ((lkRefs qs).length : Int) = (qs.length : Int) := by rw [refs_len]
    refine q_when (b := false) (et_is (et_or (et_test (ev_op (x := .int (ps.length : Int)) (ev_is (ev_lenU (ev_fld (ev_var rfl) hr8 T.cl_Ring T.na_Ring_there rfl) ht8) (by rw [l1])) ev_c (fun H1 _ Q q => ⟨_, _, rfl, rfl, q H1 (Ex.refl H1)⟩))) (fun _ => et_test (ev_op (x := .int (qs.length : Int)) (ev_is (ev_lenU (ev_fld (ev_var rfl) hr8 T.cl_Ring T.na_Ring_back rfl) hu8) (by rw [l2])) ev_c (fun H1 _ Q q => ⟨_, _, rfl, rfl, q H1 (Ex.refl H1)⟩)))) (by
      rw [decide_eq_false (by omega), decide_eq_false (by omega)]; rfl)) (fun c => by cases c) (fun _ H9 e9 => ?_)
    have e69 := (e7.trans e8).trans e9
    have hr9 := e9 _ _ hr8
    have ht9 := e9 _ _ ht8
    have hu9 := e9 _ _ hu8
    have w9 := w.mono e69
    have R9 := R.mono e69
    have hold : (chainL es (flip z) z (lks ps) && chainL es z (flip z) (lks qs)) = true := by
      rw [← chain_eq w9.o.row lf _ _ lz, ← chain_eq w9.o.row lz _ _ lf, k.c1, k.c2]; rfl
    refine q_when (b := false) (et_is (et_not (et_B (ev_call (ea_cons (ev_var rfl) (ea_cons (ev_var rfl) (ea_cons (ev_fld (ev_var rfl) hr9 T.cl_Ring T.na_Ring_name rfl) (ea_cons (ev_fld (ev_var rfl) hr9 T.cl_Ring T.na_Ring_there rfl) (ea_cons (ev_fld (ev_var rfl) hr9 T.cl_Ring T.na_Ring_back rfl) ea_nil))))) fun Ha ea Q q E => ⟨ln, lr, t, u, es, last, z, ps, qs, rfl, w9.t.mono ea, w9.o, nz, .inr (st_of (ea _ _ ht9)), .inr (st_of (ea _ _ hu9)), R9.lp.mono ea, R9.lq.mono ea, fun x m => (lit_txt (k.l1 x m).2).mono (by decide), fun x m => (lit_txt (k.l2 x m).2).mono (by decide), q⟩))) (by rw [hold]; rfl)) (fun c => by cases c) (fun _ Ha ea => ?_)
    have Ra := R9.mono ea
    have wa := w9.mono ea
    exact s_ret (v := .bl true) (ev_sN (x := .bl true) (ev_is (ev_methR (ev_var rfl) (ea _ _ hr9) rfl (ea_cons (ev_var rfl) ea_nil) fun Hc ec Q q E => ⟨r, b, dx, d, es, last, z, ps, qs, rfl, Ra.mono ec, wa.B.mono ec, wa.o, nz, fun x m => (lit_txt (k.l1 x m).2).mono (by decide), fun x m => (lit_txt (k.l2 x m).2).mono (by decide), q⟩) (by rw [k.c1, k.c2]; rfl)) ev_c rfl) fun Hc ec => q Hc ((e69.trans ea).trans ec)
end
section
open Evl
theorem ev_any {σ : L2.St} {H : Hp} {tl : TE} {bs : List Bool} {b : Bool} (h : EvL tl σ H (bs.map V.bl)) (e : bs.any id = b) : Ev (tCB (rAny K) (tCons tl tNil)) σ H (.bl b) := fun H1 e1 Q q =>
  h H1 e1 _ fun p H2 _ e2 hp => ⟨p, bs, rfl, sq_of hp, by rw [e]; exact q H2 e2⟩
theorem ev_isLs {σ : L2.St} {H : Hp} {ta : TE} {a : Addr} {xs : List V} {c : String} {b : Bool} (h : Ev ta σ H (.ref a)) (ha : H a = some (.lst xs)) (hk : kitB "list" c = some b) : Ev (tCB (rIsi K) (tCons ta (tCons (tC (.ty c)) tNil))) σ H (.bl b) :=
  ev_cb (ea_cons h (ea_cons ev_c ea_nil)) fun H1 e Q q => ⟨.ref a, .ty c, .type "list", .type c, b, rfl, .ty c, .base (.lst (e _ _ ha)), kit_ty hk, q H1 (Ex.refl H1)⟩
theorem takeV29 (l : List V) (k : Nat) : l.take (min k l.length) = l.take k := by
  by_cases h : k ≤ l.length
  · rw [Nat.min_eq_left h]
  · rw [Nat.min_eq_right (by omega), List.take_of_length_le (Nat.le_refl _), List.take_of_length_le (by omega)]
theorem cutV_to29 (l : List V) (k : Nat) : cutV l none (some (k : Int)) = l.take k := by
  unfold cutV
  rw [HT.sIx_nat, HT.sIx_none, List.drop_zero, Nat.sub_zero, takeV29]
theorem ev_lenE {σ : L2.St} {H : Hp} {te : TE} {xs : List V} (h : EvL te σ H xs) : Ev (tCB (rLenS K) (tCons te tNil)) σ H (.int (xs.length : Int)) := fun H1 e1 Q q =>
  h H1 e1 _ fun p H2 np e2 hp => ⟨p, xs, rfl, .inl (sq_of hp), q H2 e2⟩
theorem ev_ixE {σ : L2.St} {H : Hp} {te : TE} {xs : List V} {i : Int} {v : V} (h : EvL te σ H xs) (at_ : atI xs i = some v) : Ev (tOp (rIxL K) te (tC (.int i))) σ H v := fun H1 e1 Q q =>
  h H1 e1 _ fun p H2 np e2 hp => (rv_ixL (sq_of hp) at_) H2 (Ex.refl H2) Q fun H3 e3 => q H3 (e2.trans e3)
theorem rn_sub : ∀ {xs ys : List Rc}, xs.Sublist ys → (rowNames (xs.map Rc.row)).length ≤ (rowNames (ys.map Rc.row)).length := fun {xs ys} h => by
  induction h with
  | slnil => exact Nat.le_refl _
  | cons y _ ih =>
    show _ ≤ (y.R.map bare ++ rowNames (List.map Rc.row _)).length
    rw [List.length_append]
    omega
  | cons_cons y _ ih =>
    show (y.R.map bare ++ rowNames (List.map Rc.row _)).length ≤ (y.R.map bare ++ rowNames (List.map Rc.row _)).length
    rw [List.length_append, List.length_append]
    omega
/-- _law_apart(book, numbers, rows) -/
def spLAp (C CB : Addr) : Sp := fun vs H Q _ => ∃ (b dx d ln lr : Addr) (es : List Rc) (last : Int) (nms : List Str), vs = [.ref b, .ref ln, .ref lr] ∧ Wld C CB H b dx d ln lr es last nms ∧ nms.length ≤ 8 ∧ (rowNames (es.map Rc.row)).length ≤ 60 ∧ ∀ H' p x, Ex H H' → H p = none → H' p = some (.lst [.bl true, .int x]) → (0 < es.length → x ∈ es.map Rc.n) → Q (.ref p) H'
theorem ok__law_apart (T : Txt P K mg) : FnOk P w K mg base CX0 18 T.f__law_apart T.d__law_apart ["_law_book_here", "_law_numbers_here", "_law_rows"] (spLAp T.C_Clause T.C_Book) := by
  refine T.F__law_apart.ok sc__law_apart (fun vs H Q E h => ?_) (fun cdv A outer s H vs Q E hr h => ?_)
  · obtain ⟨b, dx, d, ln, lr, es, last, nms, rfl, _⟩ := h
    rfl
  · obtain ⟨b, dx, d, ln, lr, es, last, nms, rfl, w, n8, few, q⟩ := h
    refine ⟨_, (pss_cons (ps_set (i := 3) sc__law_apart.nd rfl (.inl rfl) (pe_call (ok_apart_rings T) (hr.mono (by decide)) rfl T.g_apart_rings T.F_apart_rings.kp T.b_apart_rings .nil pass0 (pa_cons (pv 0) pa_nil)))
      (pss_cons (ps_if (PW.pt (pw_or (pt_not (pt_val (pe_callB call_isi (by rfl) T.n_isinstance (by decide +kernel) (pa_cons (pv 3) (pa_cons (pe_bltn (v := .ty "list") (u := .type "list") (by rfl) T.n_list (by decide +kernel) rfl) pa_nil))))) (pw_or1 (pt_cmpR op_gt (pe_callB call_len_seq (by rfl) T.n_len PySem.boot_len (pa_cons (pv 3) pa_nil)) pe_int (by rfl))))) (pss_one (ps_ret (pe_lst (pa_cons pe_bl (pa_cons pe_int pa_nil))))) pss_nil)
      (pss_cons (ps_set (i := 4) sc__law_apart.nd rfl (.inr rfl) (pe_lst pa_nil))
      (pss_cons (ps_for PassesOwn.never rfl (pi_list (pv 3)) (pg_name (i := 5) sc__law_apart.nd rfl (.inl rfl)) (pss_cons (ps_if (pt_not (pt_val (pe_call (ok__law_ring T) (hr.mono (by decide)) rfl T.g__law_ring T.F__law_ring.kp T.b__law_ring .nil pass0 (pa_cons (pv 0) (pa_cons (pv 1) (pa_cons (pv 2) (pa_cons (pv 5) pa_nil))))))) (pss_one (ps_ret (pe_lst (pa_cons pe_bl (pa_cons pe_int pa_nil))))) pss_nil)
      (pss_cons (ps_set (i := 7) sc__law_apart.nd rfl (.inl rfl) (pe_call (ok__law_numbers_of T) (hr.mono (by decide)) rfl T.g__law_numbers_of T.F__law_numbers_of.kp T.b__law_numbers_of .nil pass0 (pa_cons (pe_op op_cat (pe_callTy call_list_of (by rfl) T.n_list (by decide +kernel) (pa_cons (pe_fld (pv 5) rfl) pa_nil)) (pe_callTy call_list_of (by rfl) T.n_list (by decide +kernel) (pa_cons (pe_fld (pv 5) rfl) pa_nil))) pa_nil)))
      (pss_cons (ps_if (pt_val (pe_callB (cr_any rfl) (by rfl) T.n_any (by decide +kernel) (pa_cons (pe_lc (own := [("_law_number", 9)]) (te := tOp (rIn K false) (tVar 9) (tVar 4)) (g := gName 9) (by rfl) sc__law_apart.nd (pi_list (pv 7)) (blkOk_by (own := [("_law_number", 9)]) (N := N__law_apart) (sc := defScope s__law_apart) (by decide +kernel)) (fun _ _ _ _ _ => pg_name (i := 9) sc__law_apart.nd rfl (Or.inl rfl)) (fun _ _ _ _ _ => pts_nil) (fun _ _ _ _ _ => (pe_cmpR op_in_seq (pv 9) (pv 4) (by rfl)))) pa_nil))) (pss_one (ps_ret (pe_lst (pa_cons pe_bl (pa_cons pe_int pa_nil))))) pss_nil)
      (pss_one (ps_set (i := 4) sc__law_apart.nd rfl (.inr rfl) (pe_op op_cat (pv 4) (pv 7))))))))
      (pss_cons (ps_setLc (tt := tTest (tOp (rIn K true) (tOp (rIxL K) (tVar 1) (tVar 8)) (tVar 4))) (te := tOp (rIxL K) (tVar 2) (tVar 8)) (i := 6) (own := [("_law_k", 8)]) (g := gName 8) (by rfl) sc__law_apart.nd rfl rfl (sw_true rfl rfl rfl (by decide +kernel)) (pi_range1 rfl T.n_range (pa_cons (pe_callB call_len_seq (by rfl) T.n_len PySem.boot_len (pa_cons (pv 2) pa_nil)) pa_nil)) (blkOk_by (own := [("_law_k", 8)]) (N := N__law_apart) (sc := defScope s__law_apart) (by decide +kernel)) (fun _ _ _ _ _ => pg_name (i := 8) sc__law_apart.nd rfl (Or.inl rfl)) (fun _ _ _ _ _ => (pts_one (pt_cmpR op_notIn_seq (pe_ix (r := rIxL K) ix_list (pv 1) (pv 8) (fun _ _ => rfl)) (pv 4) (by rfl)))) (fun _ _ _ _ _ => (pe_ix (r := rIxL K) ix_list (pv 2) (pv 8) (fun _ _ => rfl))))
      (pss_cons (ps_expr (pe_bm PySem.F.plainAttrs_list PySem.F.slot_list_append PySem.F.type_list_append mt_append (pv 3) (pa_cons pe_non pa_nil)))
      (pss_one (ps_ret (pe_lst (pa_cons (pe_cmpR op_eq (pe_callB call_len_seq (by rfl) T.n_len PySem.boot_len (pa_cons (pe_call (ok__law_rings T) (hr.mono (by decide)) rfl T.g__law_rings T.F__law_rings.kp T.b__law_rings .nil pass0 (pa_cons (pv 6) pa_nil)) pa_nil)) pe_int (by rfl)) (pa_cons (pe_ix ix_list (pe_op op_cat (pe_op op_cat (pv 4) (pe_slice sl_list (pv 1) po_none (po_some pe_int))) (pe_lst (pa_cons pe_int pa_nil))) pe_int (fun _ _ => rfl)) pa_nil))))))))))), ?_⟩
    have f24 := w.o.few
    refine q_asgRaw ⟨.ref b, rfl, b, dx, d, es, last, nms, rfl, w.B, w.o, n8, w.sub, fun H1 pt G e1 npt hpt X lG pl => ?_⟩
    dsimp only [gName]
    have w1 := w.mono e1
    have lE : ((G.map fun g => V.ref g.r).length : Int) = (G.length : Int) := by rw [List.length_map]
    refine q_when (b := false) (et_is (et_or (et_not (et_B (ev_isLs (ev_var rfl) hpt (show kitB "list" "list" = some true by decide +kernel)))) (fun _ => et_test (ev_op (x := .int (G.length : Int)) (ev_is (ev_len (ev_var rfl) (sq_of hpt)) (by rw [lE])) ev_c (fun H1 _ Q q => ⟨_, _, rfl, rfl, q H1 (Ex.refl H1)⟩)))) (by rw [decide_eq_false (by omega)]; rfl)) (fun c => by cases c) (fun _ H2 e2 => ?_)
    refine q_asgL (xs := []) (el_lst ea_nil (by decide)) fun ps0 H3 nps0 e3 hps0 => ?_
    have e13 := e2.trans e3
    have e03 := e1.trans e13
    have Gi : ∀ i (h : i < G.length), (G.map fun g => V.ref g.r)[i]? = some (.ref G[i].r) := fun i h => by rw [List.getElem?_map, List.getElem?_eq_getElem h]; rfl
    have lenG : (G.map fun g => V.ref g.r).length = G.length := List.length_map _
    have allIn : ∀ k ∈ allNs G, k ∈ es.map Rc.n := fun k hk => by
      obtain ⟨g, mg, hg⟩ := List.mem_flatMap.mp hk
      exact rg_nums (X.ok g mg) k hg
    refine q_forLn (K := K) (a := pt) (xs := G.map fun g => V.ref g.r) (j := 5) (ev_var rfl) (sq_of (e13 _ _ hpt)) (fun i σ H' => ∃ (v5 v7 : Option V) (pS : Addr) (S : List Int), σ = [some (V.ref b), some (.ref ln), some (.ref lr), some (.ref pt), some (.ref pS), v5, none, v7, none, none] ∧ Ex H3 H' ∧ pS ≠ pt ∧ H' pS = some (.lst (S.map V.int)) ∧ S.length ≤ 24 * i ∧ ∀ k, k ∈ S ↔ k ∈ allNs (G.take i))
      (fun H4 e4 => ⟨none, none, ps0, [], rfl, e4, (fun e => by rw [e, e2 _ _ hpt] at nps0; cases nps0), e4 _ _ hps0, Nat.le_refl _, fun k => by rw [List.take_zero]; exact Iff.rfl⟩) (fun i σ' H' _ ⟨_, _, _, _, _, e, _⟩ => sq_of (e _ _ (e13 _ _ hpt))) ?_ ?_
    · rintro i x σ H4 hi ⟨v5, v7, pS, S, rfl, e4, nS, hS, lS, mS⟩
      have li : i < G.length := by
        have z := (List.getElem?_eq_some_iff.mp hi).1
        rw [lenG] at z
        exact z
      rw [Gi i li] at hi
      obtain rfl : V.ref G[i].r = x := Option.some.inj hi
      have mG := List.getElem_mem li
      have R1 := X.at_ _ mG
      have k1 := X.ok _ mG
      have tk : G.take (i + 1) = G.take i ++ [G[i]] := by rw [List.take_add_one, List.getElem?_eq_getElem li]; rfl
      have sep : ∀ k ∈ G[i].ns, k ∉ S := fun k hk m => by
        obtain ⟨g0, m0, h0⟩ := List.mem_flatMap.mp ((mS k).mp m)
        obtain ⟨j, lj, ej⟩ := List.mem_iff_getElem.mp m0
        have lj2 : j < i := by rw [List.length_take] at lj; omega
        rw [List.getElem_take] at ej
        rw [← ej] at h0
        exact (List.pairwise_iff_getElem.mp X.apart) j i (by omega) li lj2 k h0 hk
      generalize G[i] = g at R1 k1 tk sep mG
      have n1 := k1.n1
      have n2 := k1.n2
      have e14 := e13.trans e4
      dsimp only [gName]
      refine q_when (b := false) (et_is (et_not (et_B (ev_call (ea_cons (ev_var rfl) (ea_cons (ev_var rfl) (ea_cons (ev_var rfl) (ea_cons (ev_var rfl) ea_nil)))) fun Ha ea Q q E => ⟨b, dx, d, ln, lr, g.r, es, last, nms, g.z, g.ps, g.qs, rfl, w1.mono (e14.trans ea), R1.mono (e14.trans ea), k1, n8, q⟩))) rfl) (fun c => by cases c) (fun _ H5 e5 => ?_)
      have R5 := R1.mono (e14.trans e5)
      obtain ⟨rdx, t, u, hr5, ht5, hu5⟩ := R5.at_
      obtain ⟨own, asc, mem⟩ := asc_of (numsL (g.ps ++ g.qs))
      have d24 : (es.map Rc.n).length ≤ 24 := by rw [List.length_map]; exact f24
      have lO : own.length ≤ 24 := Nat.le_trans (asc_len asc fun k hk => rg_nums k1 k ((mem k).mp hk)) d24
      refine q_asgL (xs := own.map V.int) (el_numsOf (els_new (by
        rw [refs_app]
        exact el_cat (els_new (el_listOf (K := K) (ev_fld (ev_var rfl) hr5 T.cl_Ring T.na_Ring_there rfl) (.inr (st_of ht5)))) (els_new (el_listOf (K := K) (ev_fld (ev_var rfl) hr5 T.cl_Ring T.na_Ring_back rfl) (.inr (st_of hu5)))) (by rw [refs_len, refs_len]; omega))) (R5.lp.app R5.lq) (by rw [List.length_append]; omega) asc mem) fun po H6 npo e6 hpo => ?_
      have hS6 := (e5.trans e6) _ _ hS
      have el : EvL (tLc (iList K (tVar 7)) (gName 9) tYes (tOp (rIn K false) (tVar 9) (tVar 4)) [9]) [some (V.ref b), some (.ref ln), some (.ref lr), some (.ref pt), some (.ref pS), some (.ref g.r), none, some (.ref po), none, none] H6 ((own.map fun n => decide (n ∈ S)).map V.bl) := by
        have z := el_gen (K := K) (σ := [some (V.ref b), some (.ref ln), some (.ref lr), some (.ref pt), some (.ref pS), some (.ref g.r), none, some (.ref po), none, none]) (H := H6) (a := po) (ys := own) (r := V.int) (f := fun n => V.bl (decide (n ∈ S))) (tl := tVar 7) (te := tOp (rIn K false) (tVar 9) (tVar 4)) (j := 9) (vs := [9]) (ev_var rfl) hpo (by omega) (fun _ => rfl) fun n mn H7 e7 => ev_is (ev_op (ev_var rfl) (ev_var rfl) (rv_isL (sq_of (e7 _ _ hS6)) rfl (flat_ints S))) (by rw [in_ints])
        rw [List.map_map]
        exact z
      refine q_when (b := false) (et_B (ev_any (K := K) el (by
        rw [List.any_map]
        refine List.any_eq_false.mpr fun n hn => ?_
        show ¬ decide (n ∈ S) = true
        rw [decide_eq_false (sep n ((mem n).mp hn))]
        simp))) (fun c => by cases c) (fun _ H7 e7 => ?_)
      refine s_asgL (xs := (S ++ own).map V.int) (by
        rw [List.map_append]
        exact el_cat (els_at (ev_var rfl) (e7 _ _ hS6)) (els_at (ev_var rfl) (e7 _ _ hpo)) (by rw [List.length_map, List.length_map]; omega)) fun pS2 H8 nS2 e8 hS2 => ?_
      have e38 := ((e4.trans e5).trans (e6.trans e7)).trans e8
      refine ⟨_, _, pS2, S ++ own, rfl, e38, (fun e => by
        have z := ((e14.trans e5).trans (e6.trans e7)) _ _ hpt
        rw [← e, nS2] at z
        cases z), hS2, by rw [List.length_append]; omega, fun k => ?_⟩
      rw [tk, allNs_app, List.mem_append, List.mem_append, mS k, mem k]
      exact Iff.rfl
    rintro σ H4 ⟨v5, v7, pS, S, rfl, e4, nS, hS, lS, mS⟩
    rw [lenG, List.take_length] at mS
    rw [lenG] at lS
    have e14 := e13.trans e4
    have w4 := w1.mono e14
    -- what is left
    have rE : ((es.map fun e => V.ref e.ra).length : Int) = (es.length : Int) := by rw [List.length_map]
    have rEn : ((es.map fun e => V.ref e.ra).length : Int).toNat = es.length := by rw [rE]; exact Int.toNat_natCast _
    refine q_asgRaw ⟨_, rfl, lr, _, rfl, .inl (SqL.of w4.t.rows), _, rfl, by omega, by rw [rE]; omega, fun D nD => ?_⟩
    refine lc_range (lo := 0) (n := ((es.map fun e => V.ref e.ra).length : Int).toNat) (fun i H' => Ex H4 H' ∧ H' D = some (.lst ((lack (es.take i) S).map fun e => V.ref e.ra))) ⟨Ex.new nD, by rw [List.take_zero]; exact upd_same⟩ ?_ ?_
    · rintro i H5 hi ⟨e5, h5⟩
      rw [rEn] at hi
      have w5 := w4.mono e5
      refine ⟨rfl, ?_⟩
      have kv : ∀ {H0 : Hp}, Ev (tVar 8) [some (V.ref b), some (.ref ln), some (.ref lr), some (.ref pt), some (.ref pS), v5, none, v7, some (.int (0 + (i : Int))), none] H0 (.int (i : Int)) := fun {H0} => ev_is (ev_var rfl) (by congr 1; omega)
      have tst : EvT (tTest (tOp (rIn K true) (tOp (rIxL K) (tVar 1) (tVar 8)) (tVar 4))) [some (V.ref b), some (.ref ln), some (.ref lr), some (.ref pt), some (.ref pS), v5, none, v7, some (.int (0 + (i : Int))), none] H5 (!decide (es[i].n ∈ S)) := et_test (ev_is (ev_op (ev_op (ev_var rfl) kv (rv_ixL (sq_of w5.t.num) (atI_nat (j := i) (v := .int es[i].n) (by rw [List.getElem?_map, List.getElem?_map, List.getElem?_eq_getElem hi]; rfl)))) (ev_var rfl) (rv_niL (sq_of (e5 _ _ hS)) rfl (flat_ints S))) (by rw [in_ints]))
      refine tst H5 (Ex.refl H5) _ fun H6 e6 => ?_
      have tk : lack (es.take (i + 1)) S = lack (es.take i) S ++ lack [es[i]] S := by
        unfold lack
        rw [List.take_add_one, List.getElem?_eq_getElem hi, List.filter_append]
        rfl
      have l1 : (lack (es.take i) S).length ≤ 24 := Nat.le_trans (lack_sub _ _).length_le (by rw [List.length_take]; omega)
      by_cases c : es[i].n ∈ S
      · rw [decide_eq_true c, if_neg (by simp)]
        refine ⟨e5.trans e6, ?_⟩
        rw [e6 _ _ h5, tk, show lack [es[i]] S = [] from by unfold lack; simp [c], List.append_nil]
      · rw [decide_eq_false c, if_pos (show (!false) = true from rfl)]
        refine (ev_op (ev_var rfl) kv (rv_ixL (sq_of (w5.mono e6).t.rows) (atI_nat (j := i) (v := .ref es[i].ra) (by rw [List.getElem?_map, List.getElem?_eq_getElem hi]; rfl)))) H6 (Ex.refl H6) _ fun H7 e7 => ?_
        refine ⟨_, e7 _ _ (e6 _ _ h5), by rw [List.length_map]; exact sz_lt (by omega), ((e5.trans e6).trans e7).mut nD, ?_⟩
        rw [upd_same, tk, show lack [es[i]] S = [es[i]] from by unfold lack; simp [c], List.map_append]
        rfl
    rintro H5 ⟨e5, h5⟩
    rw [rEn, List.take_length] at h5
    dsimp only [gName]
    have Dp : D ≠ pt := fun e => by rw [e, e14 _ _ hpt] at nD; cases nD
    have hpt5 := e5 _ _ (e14 _ _ hpt)
    refine q_app (K := K) (v := .non) hpt5 (ev_var rfl) ev_c (by rw [lenG]; omega) fun H6 e6 => ?_
    have h6 : (upd H6 pt (.lst ((G.map fun g => V.ref g.r) ++ [.non]))) D = some (.lst ((lack es S).map fun e => V.ref e.ra)) := by rw [upd_ne Dp]; exact e6 _ _ h5
    have hS6 : (upd H6 pt (.lst ((G.map fun g => V.ref g.r) ++ [.non]))) pS = some (.lst (S.map V.int)) := by rw [upd_ne nS]; exact e6 _ _ (e5 _ _ hS)
    have e06 : Ex H (upd H6 pt (.lst ((G.map fun g => V.ref g.r) ++ [.non]))) := ((((e03.trans e4).trans e5)).trans e6).mut npt
    generalize upd H6 pt (.lst ((G.map fun g => V.ref g.r) ++ [.non])) = H7 at h6 hS6 e06
    have w7 := w.mono e06
    have plS : Plain (lack es S) := by rw [lack_congr mS]; exact pl
    obtain ⟨N, od⟩ := ord_any (allNames (((lack es S).map Rc.ent).map (·.2)))
    have oS := esok_lack w.o S
    have RW : RwsAt H7 D (lack es S) nms := ⟨h6, fun e m => w7.t.each e (lack_mem.mp m).1, fun e m => w7.o.row e (lack_mem.mp m).1, w7.n12, fun e m => w7.sub e (lack_mem.mp m).1⟩
    have rl : EvL (tCall spRings [] E0 (tCons (tVar 6) tNil)) [some (V.ref b), some (.ref ln), some (.ref lr), some (.ref pt), some (.ref pS), v5, some (.ref D), v7, none, none] H7 [] := el_call (ea_cons (ev_var rfl) ea_nil) fun H8 e8 Q q E => ⟨D, lack es S, nms, rfl, RW.mono e8, Nat.le_trans (rn_sub (lack_sub es S)) few, fun N' od' p H9 np e9 hp => by
      rw [od'.uniq od oS.memR, plS N od] at hp
      exact q p H9 np e9 hp⟩
    -- the first number
    obtain ⟨x, hx⟩ : ∃ x, (S ++ (es.map Rc.n).take 1 ++ [0])[0]? = some x := by
      cases h : (S ++ (es.map Rc.n).take 1 ++ [0])[0]? with
      | some x => exact ⟨x, rfl⟩
      | none =>
        have z := List.getElem?_eq_none_iff.mp h
        rw [List.length_append, List.length_singleton] at z
        omega
    have xin : 0 < es.length → x ∈ es.map Rc.n := fun pos => by
      cases hc : S with
      | cons y r =>
        rw [hc] at hx
        obtain rfl : y = x := Option.some.inj hx
        exact allIn y ((mS y).mp (by rw [hc]; exact List.mem_cons_self))
      | nil =>
        rw [hc] at hx
        cases he : es with
        | nil => rw [he] at pos; exact absurd pos (Nat.lt_irrefl 0)
        | cons e r =>
          rw [he] at hx
          obtain rfl : e.n = x := Option.some.inj hx
          exact List.mem_map.mpr ⟨e, List.mem_cons_self, rfl⟩
    have sl : EvL (tSl (rSlL K) (tVar 1) tNoPart (tPart (tC (.int 1)))) [some (V.ref b), some (.ref ln), some (.ref lr), some (.ref pt), some (.ref pS), v5, some (.ref D), v7, none, none] H7 (((es.map Rc.n).take 1).map V.int) := by
      have z := el_sl (K := K) (σ := [some (V.ref b), some (.ref ln), some (.ref lr), some (.ref pt), some (.ref pS), v5, some (.ref D), v7, none, none]) (H := H7) (te := tVar 1) (ev_var rfl) eo_none (eo_some (te := tC (.int 1)) (i := ((1 : Nat) : Int)) ev_c) (sq_of w7.t.num)
      rw [cutV_to29, ← List.map_take] at z
      exact z
    have l1 : ((es.map Rc.n).take 1).length ≤ 1 := by rw [List.length_take]; omega
    have E2 := ev_ixE (K := K) (i := 0) (v := .int x) (el_cat (els_new (el_cat (els_at (te := tVar 4) (ev_var rfl) hS6) (els_new sl) (by rw [List.length_map, List.length_map]; omega))) (els_new (el_lst (vs := [.int 0]) (ea_cons (ev_c (v := .int 0)) ea_nil) (by show 1 ≤ 100000; omega))) (by rw [List.length_append, List.length_map, List.length_map]; show _ + 1 ≤ _; omega)) (by
      rw [show (S.map V.int ++ ((es.map Rc.n).take 1).map V.int ++ [V.int 0]) = (S ++ (es.map Rc.n).take 1 ++ [0]).map V.int by rw [List.map_append, List.map_append]; rfl]
      refine atI_nat (j := 0) ?_
      rw [List.getElem?_map, hx]
      rfl)
    refine (el_lst (vs := [.bl true, .int x]) (ea_cons (ev_is (ev_op (x := .int 0) (ev_lenE (K := K) rl) ev_c (rv_eq rfl)) (by simp)) (ea_cons E2 ea_nil)) (by show 2 ≤ 100000; omega)) H7 (Ex.refl H7) _ fun p H8 np e8 hp => ?_
    exact q H8 p x (e06.trans e8) (fresh_back e06 np) hp xin
end
section
open Evl
theorem takeV (l : List V) (k : Nat) : l.take (min k l.length) = l.take k := by
  by_cases h : k ≤ l.length
  · rw [Nat.min_eq_left h]
  · rw [Nat.min_eq_right (by omega), List.take_of_length_le (Nat.le_refl _), List.take_of_length_le (by omega)]
theorem dropV (l : List V) (k : Nat) : l.drop (min k l.length) = l.drop k := by
  by_cases h : k ≤ l.length
  · rw [Nat.min_eq_left h]
  · rw [Nat.min_eq_right (by omega), List.drop_of_length_le (Nat.le_refl _), List.drop_of_length_le (by omega)]
theorem cutV_to (l : List V) (k : Nat) : cutV l none (some (k : Int)) = l.take k := by
  unfold cutV
  rw [HT.sIx_nat, HT.sIx_none, List.drop_zero, Nat.sub_zero, takeV]
theorem cutV_fr (l : List V) (k : Nat) : cutV l (some (k : Int)) none = l.drop k := by
  unfold cutV
  rw [HT.sIx_nat, HT.sIx_none, dropV]
  exact List.take_of_length_le (by rw [List.length_drop]; omega)
theorem But.fr {a l : Addr} {ns : List Int} {H H' : Hp} {x : Addr} (B : But a H H') (S : SrcL H' a l ns) (h : H' x = none) : H x = none := by
  cases hx : H x with
  | none => rfl
  | some o =>
    have n := (srl_off S h).1
    rw [B x o n hx] at h; cases h
end
section
open Evl
theorem q_op {r : R2} {ta tb : TE} {σ : L2.St} {H : Hp} {Q : VK} (h : ta σ H fun x H1 => tb σ H1 fun y H2 => r x y H2 Q) : tOp r ta tb σ H Q := h
/-- rows that are new since H -/
structure NewR (k : Nat) (H H' : Hp) (nms : List Str) (rs : List (Addr × List Str)) : Prop where
  at_ : ∀ x ∈ rs, H' x.1 = some (.lst (x.2.map V.str)) ∧ H x.1 = none
  row : ∀ x ∈ rs, RowL k x.2
  sub : ∀ x ∈ rs, ∀ z ∈ x.2, bare z ∈ nms
theorem NewR.part {k : Nat} {H H' : Hp} {nms : List Str} {rs ss : List (Addr × List Str)} (h : NewR k H H' nms rs) (m : ∀ x ∈ ss, x ∈ rs) : NewR k H H' nms ss := ⟨fun x mx => h.at_ x (m x mx), fun x mx => h.row x (m x mx), fun x mx => h.sub x (m x mx)⟩
theorem NewR.ex {k : Nat} {H H' H2 : Hp} {nms : List Str} {rs : List (Addr × List Str)} (h : NewR k H H' nms rs) (e : Ex H' H2) : NewR k H H2 nms rs := ⟨fun x mx => ⟨e _ _ (h.at_ x mx).1, (h.at_ x mx).2⟩, h.row, h.sub⟩
/-- a list of four new lists -/
theorem lst4 {σ : L2.St} {H : Hp} {t1 t2 t3 t4 : TE} {x1 x2 x3 x4 : List V} (h1 : EvL t1 σ H x1) (h2 : EvL t2 σ H x2) (h3 : EvL t3 σ H x3) (h4 : EvL t4 σ H x4) : ∀ H1, Ex H H1 → ∀ Q : VK, (∀ p a1 a2 a3 a4 H2, H1 p = none → H1 a1 = none → H1 a2 = none → H1 a3 = none → H1 a4 = none → Ex H1 H2 → H2 p = some (.lst [.ref a1, .ref a2, .ref a3, .ref a4]) → H2 a1 = some (.lst x1) → H2 a2 = some (.lst x2) → H2 a3 = some (.lst x3) → H2 a4 = some (.lst x4) → Q (.ref p) H2) →
    tLst (tCons t1 (tCons t2 (tCons t3 (tCons t4 tNil)))) σ H1 Q := fun H1 e1 Q q => by
  show t1 σ H1 fun v1 Ha => t2 σ Ha fun v2 Hb => t3 σ Hb fun v3 Hc => t4 σ Hc fun v4 Hd => ([v1, v2, v3, v4] : List V).length ≤ sizeLine ∧ ∀ p, Hd p = none → Q (.ref p) (upd Hd p (.lst [v1, v2, v3, v4]))
  refine h1 H1 e1 _ fun a1 Ha n1 ea g1 => h2 Ha (e1.trans ea) _ fun a2 Hb n2 eb g2 => h3 Hb ((e1.trans ea).trans eb) _ fun a3 Hc n3 ec g3 => h4 Hc (((e1.trans ea).trans eb).trans ec) _ fun a4 Hd n4 ed g4 => ⟨sz_of (by simp), fun p np => ?_⟩
  have eab := ea.trans eb
  have eac := eab.trans ec
  have ead := eac.trans ed
  have ep : Ex Hd (upd Hd p (.lst [.ref a1, .ref a2, .ref a3, .ref a4])) := Ex.new np
  exact q p a1 a2 a3 a4 _ (fresh_back ead np) n1 (fresh_back ea n2) (fresh_back eab n3) (fresh_back eac n4) (ead.trans ep) upd_same (ep _ _ (ed _ _ (ec _ _ (eb _ _ g1)))) (ep _ _ (ed _ _ (ec _ _ g2))) (ep _ _ (ed _ _ g3)) (ep _ _ g4)
/-- two names in any signs -/
theorem two_row {x y sx sy : Str} (hx : isName x = true) (hy : isName y = true) (ne : x ≠ y) (s1 : sx = "" ∨ sx = "-") (s2 : sy = "" ∨ sy = "-") : RowL 2 [sx ++ x, sy ++ y] ∧ ∀ z ∈ [sx ++ x, sy ++ y], bare z ∈ [x, y] := by
  have one : ∀ {s n : Str}, isName n = true → (s = "" ∨ s = "-") → isLit (s ++ n) = true ∧ bare (s ++ n) = n := fun {s n} hn hs => by
    rcases hs with rfl | rfl
    · rw [empty_app]; exact ⟨name_lit hn, bare_no (name_dash hn)⟩
    · exact ⟨minus_lit hn, bare_minus _⟩
  obtain ⟨l1, b1⟩ := one hx s1
  obtain ⟨l2, b2⟩ := one hy s2
  refine ⟨⟨by simp, fun z m => ?_, ?_⟩, fun z m => ?_⟩
  · simp only [List.mem_cons, List.not_mem_nil, or_false] at m
    rcases m with rfl | rfl
    · exact l1
    · exact l2
  · rw [List.map_cons, List.map_cons, List.map_nil, b1, b2]
    simp [ne]
  · simp only [List.mem_cons, List.not_mem_nil, or_false] at m ⊢
    rcases m with rfl | rfl
    · exact .inl b1
    · exact .inr b2
/-- _law_knot(one, other, source) -/
def spKnot : Sp := fun vs H Q _ => ∃ (a l : Addr) (ns : List Int) (x y : Str), vs = [.str x, .str y, .ref a] ∧ SrcL H a l ns ∧ isName x = true ∧ isName y = true ∧ x ≠ y ∧
  ∀ (H' : Hp) (p : Addr) (rs : List (Addr × List Str)), H p = none → SrcL H' a l ns → But a H H' → H' p = some (.lst (rs.map fun x => V.ref x.1)) → NewR 2 H H' [x, y] rs → rs.length ≤ 4 → Q (.ref p) H'
theorem ok__law_knot (T : Txt P K mg) : FnOk P w K mg base CX0 2 T.f__law_knot T.d__law_knot ["_law_one", "_law_other", "_law_source_here"] spKnot := by
  refine T.F__law_knot.ok sc__law_knot (fun vs H Q E h => ?_) (fun cdv A outer s H vs Q E hr h => ?_)
  · obtain ⟨a, l, ns, x, y, rfl, _⟩ := h
    rfl
  · obtain ⟨a, l, ns, x, y, rfl, S, hx, hy, ne, q⟩ := h
    refine ⟨_, (pss_cons (ps_set (i := 3) sc__law_knot.nd rfl (.inl rfl) (pe_lst (pa_cons (pe_lst (pa_cons (pv 0) (pa_cons (pv 1) pa_nil))) (pa_cons (pe_lst (pa_cons (pv 0) (pa_cons (pe_op op_add_str pe_str (pv 1)) pa_nil))) (pa_cons (pe_lst (pa_cons (pe_op op_add_str pe_str (pv 0)) (pa_cons (pv 1) pa_nil))) (pa_cons (pe_lst (pa_cons (pe_op op_add_str pe_str (pv 0)) (pa_cons (pe_op op_add_str pe_str (pv 1)) pa_nil))) pa_nil))))))
      (pss_cons (ps_set (i := 4) sc__law_knot.nd rfl (.inl rfl) (pe_call (okL__law_take T) (hr.mono (by decide)) rfl T.g__law_take T.F__law_take.kp T.b__law_take .nil pass0 (pa_cons (pv 2) (pa_cons pe_int pa_nil))))
      (pss_cons (ps_if (pt_cmpR op_lt (pv 4) pe_int (nomark _)) (pss_one (ps_ret (pe_op op_cat (pe_slice sl_list (pv 3) po_none (po_some (pv 4))) (pe_slice sl_list (pv 3) (po_some (pe_op op_add (pv 4) pe_int)) po_none)))) pss_nil)
      (pss_one (ps_ret (pv 3)))))), ?_⟩
    have mx : Ev (tOp (fun x y H Q => ∃ i j, x = V.str i ∧ y = V.str j ∧ i.length + j.length ≤ sizeLine ∧ Q (V.str (i ++ j)) H) (tC (.str "-")) (tVar 0)) [some (V.str x), some (.str y), some (.ref a), none, none] H (.str ("-" ++ x)) := ev_catS ev_c (ev_var rfl) (sg_name_txt (.inr rfl) hx)
    have my : Ev (tOp (fun x y H Q => ∃ i j, x = V.str i ∧ y = V.str j ∧ i.length + j.length ≤ sizeLine ∧ Q (V.str (i ++ j)) H) (tC (.str "-")) (tVar 1)) [some (V.str x), some (.str y), some (.ref a), none, none] H (.str ("-" ++ y)) := ev_catS ev_c (ev_var rfl) (sg_name_txt (.inr rfl) hy)
    refine q_asgRaw (lst4 (el_lst (vs := [.str x, .str y]) (ea_cons (ev_var rfl) (ea_cons (ev_var rfl) ea_nil)) (by simp)) (el_lst (vs := [.str x, .str ("-" ++ y)]) (ea_cons (ev_var rfl) (ea_cons my ea_nil)) (by simp)) (el_lst (vs := [.str ("-" ++ x), .str y]) (ea_cons mx (ea_cons (ev_var rfl) ea_nil)) (by simp)) (el_lst (vs := [.str ("-" ++ x), .str ("-" ++ y)]) (ea_cons mx (ea_cons my ea_nil)) (by simp)) H (Ex.refl H) _ fun p a1 a2 a3 a4 H1 np n1 n2 n3 n4 e1 hp g1 g2 g3 g4 => ?_)
    dsimp only [gName]
    have nr : NewR 2 H H1 [x, y] [(a1, [x, y]), (a2, [x, "-" ++ y]), (a3, ["-" ++ x, y]), (a4, ["-" ++ x, "-" ++ y])] := by
      obtain ⟨r1, s1⟩ := two_row hx hy ne (.inl rfl) (.inl rfl)
      obtain ⟨r2, s2⟩ := two_row hx hy ne (.inl rfl) (.inr rfl)
      obtain ⟨r3, s3⟩ := two_row hx hy ne (.inr rfl) (.inl rfl)
      obtain ⟨r4, s4⟩ := two_row hx hy ne (.inr rfl) (.inr rfl)
      rw [empty_app, empty_app] at r1 s1
      rw [empty_app] at r2 s2 r3 s3
      refine ⟨fun z m => ?_, fun z m => ?_, fun z m => ?_⟩ <;> (simp only [List.mem_cons, List.not_mem_nil, or_false] at m; rcases m with rfl | rfl | rfl | rfl)
      · exact ⟨g1, n1⟩
      · exact ⟨g2, n2⟩
      · exact ⟨g3, n3⟩
      · exact ⟨g4, n4⟩
      · exact r1
      · exact r2
      · exact r3
      · exact r4
      · exact s1
      · exact s2
      · exact s3
      · exact s4
    have hp : H1 p = some (.lst (([(a1, [x, y]), (a2, [x, "-" ++ y]), (a3, ["-" ++ x, y]), (a4, ["-" ++ x, "-" ++ y])] : List (Addr × List Str)).map fun x => V.ref x.1)) := hp
    have l4 : ([(a1, [x, y]), (a2, [x, "-" ++ y]), (a3, ["-" ++ x, y]), (a4, ["-" ++ x, "-" ++ y])] : List (Addr × List Str)).length = 4 := rfl
    generalize ([(a1, [x, y]), (a2, [x, "-" ++ y]), (a3, ["-" ++ x, y]), (a4, ["-" ++ x, "-" ++ y])] : List (Addr × List Str)) = rs at nr hp l4
    have pa := srl_off S np
    refine ⟨.ref a, rfl, a, 6, l, ns, rfl, srl_ex S e1, by decide, by decide, fun H2 g g0 g1 S2 B2 => ?_⟩
    dsimp only [gName]
    obtain ⟨g, rfl⟩ := Int.eq_ofNat_of_zero_le g0
    have nr2 : NewR 2 H H2 [x, y] rs := ⟨fun z m => ⟨B2 _ _ (srl_off S (nr.at_ z m).2).1 (nr.at_ z m).1, (nr.at_ z m).2⟩, nr.row, nr.sub⟩
    have hp2 := B2 _ _ pa.1 hp
    have B02 : But a H H2 := fun c o n h => B2 c o n (e1 _ _ h)
    refine q_when (et_test (ev_op (ev_var rfl) ev_c (fun H1 _ Q q => ⟨_, _, rfl, rfl, q H1 (Ex.refl H1)⟩))) (fun c H3 e3 => ?_) (fun c H3 e3 => ⟨_, rfl, q H3 p rs np (srl_ex S2 e3) (fun c o n h => e3 _ _ (B02 c o n h)) (e3 _ _ hp2) (nr2.ex e3) (by omega)⟩)
    have hp3 := e3 _ _ hp2
    have s1 := el_sl (K := K) (σ := [some (V.str x), some (.str y), some (.ref a), some (.ref p), some (.int (g : Int))]) (H := H3) (te := tVar 3) (ev_var rfl) eo_none (eo_some (te := tVar 4) (i := (g : Int)) (ev_var rfl)) (sq_of hp3)
    have s2 := el_sl (K := K) (σ := [some (V.str x), some (.str y), some (.ref a), some (.ref p), some (.int (g : Int))]) (H := H3) (te := tVar 3) (ev_var rfl) (eo_some (te := tOp (rI0 fun i j => .int (i + j)) (tVar 4) (tC (.int 1))) (i := ((g + 1 : Nat) : Int)) (ev_op (ev_var rfl) ev_c (fun H1 _ Q q => ⟨_, _, rfl, rfl, q H1 (Ex.refl H1)⟩))) eo_none (sq_of hp3)
    rw [cutV_to, ← List.map_take] at s1
    rw [cutV_fr, ← List.map_drop] at s2
    refine (el_cat (els_new s1) (els_new s2) (by rw [List.length_map, List.length_map, List.length_take, List.length_drop]; omega)) H3 (Ex.refl H3) _ fun r H4 nr4 e4 hr4 => ?_
    rw [← List.map_append] at hr4
    have S3 := srl_ex S2 e3
    have B3 : But a H H3 := fun c o n h => e3 _ _ (B02 c o n h)
    refine q H4 r (rs.take g ++ rs.drop (g + 1)) (B3.fr S3 nr4) (srl_ex S3 e4) (fun c o n h => e4 _ _ (B3 c o n h)) hr4 (((nr2.ex e3).ex e4).part fun z m => ?_) ?_
    · rcases List.mem_append.mp m with m | m
      · exact List.mem_of_mem_take m
      · exact List.mem_of_mem_drop m
    · rw [List.length_append, List.length_take, List.length_drop]
      omega
end
section
open Evl
theorem NewR.keep {k : Nat} {H H' H2 : Hp} {nms : List Str} {rs : List (Addr × List Str)} {a l : Addr} {ns : List Int} (h : NewR k H H' nms rs) (S : SrcL H a l ns) (B : But a H' H2) : NewR k H H2 nms rs := ⟨fun x mx => ⟨B _ _ (srl_off S (h.at_ x mx).2).1 (h.at_ x mx).1, (h.at_ x mx).2⟩, h.row, h.sub⟩
theorem NewR.app {k : Nat} {H H' : Hp} {nms : List Str} {rs ss : List (Addr × List Str)} (h : NewR k H H' nms rs) (g : NewR k H H' nms ss) : NewR k H H' nms (rs ++ ss) := ⟨fun x mx => (List.mem_append.mp mx).elim (h.at_ x) (g.at_ x), fun x mx => (List.mem_append.mp mx).elim (h.row x) (g.row x), fun x mx => (List.mem_append.mp mx).elim (h.sub x) (g.sub x)⟩
/-- a new row list p is put at .. -/
theorem NewR.upd {k : Nat} {H H' : Hp} {nms : List Str} {rs : List (Addr × List Str)} {p : Addr} {o : HO} (h : NewR k H H' nms rs) (n : ∀ x ∈ rs, x.1 ≠ p) : NewR k H (L2.upd H' p o) nms rs := ⟨fun x mx => ⟨by rw [upd_ne (n x mx)]; exact (h.at_ x mx).1, (h.at_ x mx).2⟩, h.row, h.sub⟩
/-- what is known in _law_rows: the rows that are made -/
structure RwI (H : Hp) (a l : Addr) (ns : List Int) (nms M : List Str) (tl : Addr) (m : Nat) (H' : Hp) (p : Addr) (rs : List (Addr × List Str)) : Prop where
  src : SrcL H' a l ns
  but : But a H H'
  turned : H' tl = some (.lst (M.map V.str))
  new : H p = none
  tp : tl ≠ p
  at_ : H' p = some (.lst (rs.map fun x => V.ref x.1))
  rows : NewR m H H' nms rs
  off : ∀ x ∈ rs, x.1 ≠ p
theorem RwI.ex {H : Hp} {a l : Addr} {ns : List Int} {nms M : List Str} {tl : Addr} {m : Nat} {H' H2 : Hp} {p : Addr} {rs : List (Addr × List Str)} (I : RwI H a l ns nms M tl m H' p rs) (e : Ex H' H2) : RwI H a l ns nms M tl m H2 p rs :=
  ⟨srl_ex I.src e, fun c o n h => e _ _ (I.but c o n h), e _ _ I.turned, I.new, I.tp, e _ _ I.at_, I.rows.ex e, I.off⟩
/-- a row more -/
theorem RwI.push {H : Hp} {a l : Addr} {ns : List Int} {nms M : List Str} {tl : Addr} {m : Nat} {H' H2 : Hp} {p r : Addr} {rs : List (Addr × List Str)} {L : List Str} (I : RwI H a l ns nms M tl m H' p rs) (S : SrcL H a l ns) (ta : tl ≠ a) (S2 : SrcL H2 a l ns) (B : But a H' H2) (nr : H' r = none) (hr : H2 r = some (.lst (L.map V.str))) (row : RowL m L) (sub : ∀ z ∈ L, bare z ∈ nms) :
    RwI H a l ns nms M tl m (L2.upd H2 p (.lst ((rs.map fun x => V.ref x.1) ++ [.ref r]))) p (rs ++ [(r, L)]) := by
  have pa := srl_off S I.new
  have rp : r ≠ p := fun e => by rw [e, I.at_] at nr; cases nr
  have nr0 : H r = none := I.but.fr I.src nr
  have k := (I.rows.keep S B).upd (p := p) (o := .lst ((rs.map fun x => V.ref x.1) ++ [.ref r])) I.off
  refine ⟨srl_put S2 pa.1 pa.2, fun c o n h => ?_, ?_, I.new, I.tp, ?_, k.app ⟨fun x mx => ?_, fun x mx => ?_, fun x mx => ?_⟩, fun x mx => ?_⟩
  · rw [upd_ne (ne_of_none h I.new)]
    exact B _ _ n (I.but c o n h)
  · rw [upd_ne I.tp]
    exact B _ _ ta I.turned
  · rw [upd_same, List.map_append]
    rfl
  · rw [List.mem_singleton.mp mx]
    exact ⟨by rw [upd_ne rp]; exact hr, nr0⟩
  · rw [List.mem_singleton.mp mx]; exact row
  · rw [List.mem_singleton.mp mx]; exact sub
  · rcases List.mem_append.mp mx with h | h
    · exact I.off x h
    · rw [List.mem_singleton.mp h]; exact rp
theorem NewR.nil {k : Nat} {H H' : Hp} {nms : List Str} : NewR k H H' nms [] := ⟨(fun x mx => nomatch mx), (fun x mx => nomatch mx), (fun x mx => nomatch mx)⟩
theorem RwI.go {H : Hp} {a l : Addr} {ns : List Int} {nms M : List Str} {tl : Addr} {m : Nat} {H' H2 : Hp} {p : Addr} {rs : List (Addr × List Str)} (I : RwI H a l ns nms M tl m H' p rs) (S : SrcL H a l ns) (ta : tl ≠ a) (S2 : SrcL H2 a l ns) (B : But a H' H2) : RwI H a l ns nms M tl m H2 p rs :=
  ⟨S2, fun c o n h => B _ _ n (I.but c o n h), B _ _ ta I.turned, I.new, I.tp, B _ _ (srl_off S I.new).1 I.at_, I.rows.keep S B, I.off⟩
theorem RwI.cat {H : Hp} {a l : Addr} {ns : List Int} {nms M nm2 : List Str} {tl : Addr} {m k : Nat} {H' H2 : Hp} {p r : Addr} {rs rs2 : List (Addr × List Str)} (I : RwI H a l ns nms M tl m H' p rs) (S : SrcL H a l ns) (ta : tl ≠ a) (S2 : SrcL H2 a l ns) (B : But a H' H2) (nr2 : NewR k H' H2 nm2 rs2) (km : k ≤ m) (sub2 : ∀ z ∈ nm2, z ∈ nms) (nr : H2 r = none) :
    RwI H a l ns nms M tl m (L2.upd H2 r (.lst ((rs.map fun x => V.ref x.1) ++ rs2.map fun x => V.ref x.1))) r (rs ++ rs2) := by
  have er : Ex H2 (L2.upd H2 r (.lst ((rs.map fun x => V.ref x.1) ++ rs2.map fun x => V.ref x.1))) := Ex.new nr
  have B2 : But a H H2 := fun c o n h => B _ _ n (I.but c o n h)
  have k1 := (I.rows.keep S B).ex er
  have k2 : NewR m H H2 nms rs2 := ⟨fun x mx => ⟨(nr2.at_ x mx).1, I.but.fr I.src (nr2.at_ x mx).2⟩, fun x mx => (nr2.row x mx).mono km, fun x mx z hz => sub2 _ (nr2.sub x mx z hz)⟩
  have t2 := B _ _ ta I.turned
  refine ⟨srl_ex S2 er, fun c o n h => er _ _ (B2 c o n h), er _ _ t2, B2.fr S2 nr, (fun e => by rw [e, nr] at t2; cases t2), by rw [upd_same, List.map_append], k1.app (k2.ex er), fun x mx => ?_⟩
  rcases List.mem_append.mp mx with h | h
  · have w := ((I.rows.keep S B).at_ x h).1
    exact fun e => by rw [e, nr] at w; cases w
  · have w := (k2.at_ x h).1
    exact fun e => by rw [e, nr] at w; cases w
theorem rn_app (rs ss : List (Addr × List Str)) : rowNames (rs ++ ss) = rowNames rs ++ rowNames ss := by unfold rowNames; rw [List.flatMap_append]
theorem rn_le {k : Nat} : ∀ {rs : List (Addr × List Str)}, (∀ x ∈ rs, x.2.length ≤ k) → (rowNames rs).length ≤ k * rs.length
  | [], _ => Nat.le_of_eq rfl
  | x :: rs, h => by
    have ih := rn_le (rs := rs) fun y m => h y (List.mem_cons_of_mem _ m)
    have h1 := h x List.mem_cons_self
    have e : rowNames (x :: rs) = x.2.map bare ++ rowNames rs := rfl
    rw [e, List.length_append, List.length_map, List.length_cons, Nat.mul_succ]
    omega
theorem rn_rev (rs : List (Addr × List Str)) : (rowNames rs.reverse).length = (rowNames rs).length := by
  unfold rowNames
  exact ((List.reverse_perm rs).flatMap_right _).length_eq
/-- what the makers of rows give -/
def RwOutB (L S : Nat) (H : Hp) (a l : Addr) (ns : List Int) (nms : List Str) (Q : VK) : Prop := ∀ (H' : Hp) (p : Addr) (rs : List (Addr × List Str)), H p = none → SrcL H' a l ns → But a H H' → H' p = some (.lst (rs.map fun x => V.ref x.1)) → NewR 4 H H' nms rs → rs.length ≤ L → (rowNames rs).length ≤ S → Q (.ref p) H'
/-- .. or turned about -/
theorem rev_or {L S0 : Nat} {H : Hp} {a l : Addr} {ns : List Int} {nms M : List Str} {tl : Addr} {Hx : Hp} {p : Addr} {rs : List (Addr × List Str)} {Q : VK} (q : RwOutB L S0 H a l ns nms Q) (S : SrcL H a l ns) (ta : tl ≠ a) (I : RwI H a l ns nms M tl 4 Hx p rs) (few : rs.length ≤ L) (sum : (rowNames rs).length ≤ S0) {H2 : Hp} (S2 : SrcL H2 a l ns) (B2 : But a Hx H2) : (∀ H3, Ex H2 H3 → Q (.ref p) H3) ∧ ∀ H3 r, Ex H2 H3 → H3 r = none → Q (.ref r) (upd H3 r (.lst (rs.map fun x => V.ref x.1).reverse)) := by
  have I2 := I.go S ta S2 B2
  refine ⟨fun H3 e3 => ?_, fun H3 r e3 nr => ?_⟩
  · have I3 := I2.ex e3
    exact q H3 p rs I3.new I3.src I3.but I3.at_ I3.rows few sum
  · have I3 := I2.ex e3
    have er : Ex H3 (upd H3 r (.lst (rs.map fun x => V.ref x.1).reverse)) := Ex.new nr
    refine q _ r rs.reverse (I3.but.fr I3.src nr) (srl_ex I3.src er) (fun c o n h => er _ _ (I3.but c o n h)) (by rw [upd_same, List.map_reverse]) ((I3.rows.ex er).part fun x mx => List.mem_reverse.mp mx) (by rw [List.length_reverse]; exact few) (by rw [rn_rev]; exact sum)
/-- _law_knots(source, names) -/
def spKnots : Sp := fun vs H Q _ => ∃ (a l : Addr) (ns : List Int) (b : Addr) (nms : List Str), vs = [.ref a, .ref b] ∧ SrcL H a l ns ∧ H b = some (.lst (nms.map V.str)) ∧ b ≠ a ∧ 0 < nms.length ∧ nms.length ≤ 12 ∧ (∀ z ∈ nms, isName z = true) ∧ RwOutB 20 60 H a l ns nms Q
theorem ok__law_knots (T : Txt P K mg) : FnOk P w K mg base CX0 3 T.f__law_knots T.d__law_knots ["_law_source_here", "_law_names_here"] spKnots := by
  refine T.F__law_knots.ok sc__law_knots (fun vs H Q E h => ?_) (fun cdv A outer s H vs Q E hr h => ?_)
  · obtain ⟨a, l, ns, b, nms, rfl, _⟩ := h
    rfl
  · obtain ⟨a, l, ns, b, nms, rfl, S, hb, ba, pos, n12, nm, q⟩ := h
    refine ⟨_, (pss_cons (ps_set (i := 2) sc__law_knots.nd rfl (.inl rfl) (pe_lst pa_nil))
      (pss_cons (ps_for PassesOwn.never rfl (pi_range1 rfl T.n_range (pa_cons (pe_call (okL__law_take T) (hr.mono (by decide)) rfl T.g__law_take T.F__law_take.kp T.b__law_take .nil pass0 (pa_cons (pv 0) (pa_cons pe_int pa_nil))) pa_nil)) (pg_name (i := 3) sc__law_knots.nd rfl (.inl rfl)) (pss_cons (ps_set (i := 4) sc__law_knots.nd rfl (.inl rfl) (pe_ix ix_list (pv 1) (pe_call (okL__law_take T) (hr.mono (by decide)) rfl T.g__law_take T.F__law_take.kp T.b__law_take .nil pass0 (pa_cons (pv 0) (pa_cons (pe_callB call_len_seq (by rfl) T.n_len PySem.boot_len (pa_cons (pv 1) pa_nil)) pa_nil))) (fun _ _ => rfl)))
      (pss_cons (ps_set (i := 5) sc__law_knots.nd rfl (.inl rfl) (pe_ix ix_list (pv 1) (pe_call (okL__law_take T) (hr.mono (by decide)) rfl T.g__law_take T.F__law_take.kp T.b__law_take .nil pass0 (pa_cons (pv 0) (pa_cons (pe_callB call_len_seq (by rfl) T.n_len PySem.boot_len (pa_cons (pv 1) pa_nil)) pa_nil))) (fun _ _ => rfl)))
      (pss_one (ps_if (pt_cmpR op_ne (pv 4) (pv 5) (by rfl)) (pss_one (ps_set (i := 2) sc__law_knots.nd rfl (.inl rfl) (pe_op op_cat (pv 2) (pe_call (ok__law_knot T) (hr.mono (by decide)) rfl T.g__law_knot T.F__law_knot.kp T.b__law_knot .nil pass0 (pa_cons (pv 4) (pa_cons (pv 5) (pa_cons (pv 0) pa_nil))))))) pss_nil)))))
      (pss_cons (ps_for PassesOwn.never rfl (pi_range1 rfl T.n_range (pa_cons (pe_call (okL__law_take T) (hr.mono (by decide)) rfl T.g__law_take T.F__law_take.kp T.b__law_take .nil pass0 (pa_cons (pv 0) (pa_cons pe_int pa_nil))) pa_nil)) (pg_name (i := 3) sc__law_knots.nd rfl (.inl rfl)) (pss_one (ps_expr (pe_bm PySem.F.plainAttrs_list PySem.F.slot_list_append PySem.F.type_list_append mt_append (pv 2) (pa_cons (pe_call (ok__law_row T) (hr.mono (by decide)) rfl T.g__law_row T.F__law_row.kp T.b__law_row .nil pass0 (pa_cons (pv 0) (pa_cons (pv 1) (pa_cons pe_int pa_nil)))) pa_nil)))))
      (pss_cons (ps_if (pt_cmpR op_eq (pe_call (okL__law_take T) (hr.mono (by decide)) rfl T.g__law_take T.F__law_take.kp T.b__law_take .nil pass0 (pa_cons (pv 0) (pa_cons pe_int pa_nil))) pe_int (by rfl)) (pss_one (ps_ret (pe_revL (pv 2)))) pss_nil)
      (pss_one (ps_ret (pv 2))))))), ?_⟩
    have lnm : (nms.map V.str).length = nms.length := List.length_map _
    refine q_asgL (xs := []) (el_lst ea_nil (by decide)) fun p0 H1 np0 e1 hp0 => ?_
    have I1 : RwI H a l ns nms nms b 4 H1 p0 [] := ⟨srl_ex S e1, fun c o n h => e1 _ _ h, e1 _ _ hb, np0, (fun e => by rw [← e, hb] at np0; cases np0), hp0, .nil, (fun x mx => nomatch mx)⟩
    refine ⟨.ref a, rfl, a, 5, l, ns, rfl, I1.src, by decide, by decide, fun H2 m m0 m1 S2 B2 => ⟨m, rfl, by omega, by omega, for_range (lo := 0) (n := m.toNat) (fun i σ H' => ∃ (v3 v4 v5 : Option V) (p : Addr) (rs : List (Addr × List Str)), σ = [some (V.ref a), some (.ref b), some (.ref p), v3, v4, v5] ∧ RwI H a l ns nms nms b 4 H' p rs ∧ rs.length ≤ 4 * i ∧ (rowNames rs).length ≤ 8 * i)
      ⟨_, _, _, p0, [], rfl, I1.go S ba S2 B2, Nat.le_refl _, Nat.le_refl _⟩ ?_ ?_⟩⟩
    · rintro i σ H3 hi ⟨v3, v4, v5, p, rs, rfl, I, len, sum⟩
      dsimp only [gName]
      have hb3 := I.turned
      refine q_asgRaw ⟨.ref b, rfl, .ref a, rfl, _, rfl, b, _, rfl, .inl (SqL.of hb3), a, _, l, ns, rfl, I.src, by rw [lnm]; omega, by rw [lnm]; omega, fun H4 j j0 j1 S4 B4 => ?_⟩
      obtain ⟨j, rfl⟩ := Int.eq_ofNat_of_zero_le j0
      rw [lnm] at j1
      have lj : j < nms.length := by omega
      refine (rv_ixL (sq_of (B4 _ _ ba hb3)) (atI_nat (j := j) (v := .str nms[j]) (by rw [List.getElem?_map, List.getElem?_eq_getElem lj]; rfl))) H4 (Ex.refl H4) _ fun H5 e5 => ?_
      dsimp only [gName]
      have I5 := (I.go S ba S4 B4).ex e5
      have hb5 := I5.turned
      refine q_asgRaw ⟨.ref b, rfl, .ref a, rfl, _, rfl, b, _, rfl, .inl (SqL.of hb5), a, _, l, ns, rfl, I5.src, by rw [lnm]; omega, by rw [lnm]; omega, fun H6 k k0 k1 S6 B6 => ?_⟩
      obtain ⟨k, rfl⟩ := Int.eq_ofNat_of_zero_le k0
      rw [lnm] at k1
      have lk : k < nms.length := by omega
      refine (rv_ixL (sq_of (B6 _ _ ba hb5)) (atI_nat (j := k) (v := .str nms[k]) (by rw [List.getElem?_map, List.getElem?_eq_getElem lk]; rfl))) H6 (Ex.refl H6) _ fun H7 e7 => ?_
      dsimp only [gName]
      have I7 := (I5.go S ba S6 B6).ex e7
      have nx := nm _ (List.getElem_mem lj)
      have ny := nm _ (List.getElem_mem lk)
      refine s_when (b := !decide (V.str nms[j] = V.str nms[k])) (et_test (ev_op (ev_var rfl) (ev_var rfl) (rv_ne rfl))) (fun c H8 e8 => ?_) (fun c H8 e8 => ⟨_, _, _, p, rs, rfl, I7.ex e8, by omega, by omega⟩)
      have ne : nms[j] ≠ nms[k] := fun e => by rw [e, decide_eq_true rfl] at c; cases c
      have I8 := I7.ex e8
      refine s_asgRaw (q_op ⟨_, rfl, .str nms[j], rfl, .str nms[k], rfl, .ref a, rfl, a, l, ns, _, _, rfl, I8.src, nx, ny, ne, fun H9 p2 rs2 np2 S9 B9 hp2 nr2 l4 => ?_⟩)
      have pa := srl_off S I.new
      have s2 : (rowNames rs2).length ≤ 2 * rs2.length := rn_le fun x mx => (nr2.row x mx).few
      refine ⟨p, p2, _, _, rfl, rfl, B9 _ _ pa.1 I8.at_, hp2, sz_of (by rw [List.length_map, List.length_map]; omega), fun r nr => ⟨_, _, _, r, rs ++ rs2, rfl, I8.cat S ba S9 B9 nr2 (by decide) (fun z hz => ?_) nr, by rw [List.length_append]; omega, by rw [rn_app, List.length_append]; omega⟩⟩
      simp only [List.mem_cons, List.not_mem_nil, or_false] at hz
      rcases hz with rfl | rfl
      · exact List.getElem_mem lj
      · exact List.getElem_mem lk
    · rintro σ H3 ⟨v3, v4, v5, p, rs, rfl, I3, len3, sum3⟩
      have pa := srl_off S I3.new
      have len3 : rs.length ≤ 16 := by omega
      have sum3 : (rowNames rs).length ≤ 32 := by omega
      refine ⟨.ref a, rfl, a, 5, l, ns, rfl, I3.src, by decide, by decide, fun H4 m2 m20 m21 S4 B4 => ⟨m2, rfl, by omega, by omega, for_range (lo := 0) (n := m2.toNat) (fun i σ H' => ∃ (v3 : Option V) (ss : List (Addr × List Str)), σ = [some (V.ref a), some (.ref b), some (.ref p), v3, v4, v5] ∧ RwI H a l ns nms nms b 4 H' p ss ∧ ss.length ≤ 16 + i ∧ (rowNames ss).length ≤ 32 + 4 * i)
        ⟨_, rs, rfl, I3.go S ba S4 B4, by omega, by omega⟩ ?_ ?_⟩⟩
      · rintro i σ H5 hi ⟨v3', ss, rfl, I, len, sum⟩
        dsimp only [gName]
        refine ⟨_, rfl, Or.inl ⟨rfl, _, SqL.of I.at_⟩, .ref a, rfl, .ref b, rfl, a, l, ns, b, nms, 3, rfl, by decide, I.src, I.turned, ba, pos, by omega, nm, fun H9 r L nr S9 B9 hr row sub => ⟨p, _, .ref r, rfl, rfl, B9 _ _ pa.1 I.at_, sz_lt (by rw [List.length_map]; omega), _, ss ++ [(r, L)], rfl, I.push S ba S9 B9 nr hr (row.mono (by decide)) sub, by rw [List.length_append, List.length_singleton]; omega, ?_⟩⟩
        have l4 := row.few
        rw [rn_app, List.length_append]
        have e : (rowNames [(r, L)]).length = L.length := by
          show (L.map bare ++ []).length = _
          rw [List.append_nil, List.length_map]
        omega
      · rintro σ H5 ⟨v3', ss, rfl, I, len, sum⟩
        have len : ss.length ≤ 20 := by omega
        have sum : (rowNames ss).length ≤ 60 := by omega
        refine ⟨.ref a, rfl, a, 2, l, ns, rfl, I.src, by decide, by decide, fun H6 v v0 v1 S6 B6 => ?_⟩
        obtain ⟨o1, o2⟩ := rev_or q S ba I len sum S6 B6
        refine tc_eq rfl fun H7 e7 => ⟨_, rfl, ?_⟩
        dsimp only
        by_cases c : V.int v = V.int 1
        · rw [if_pos (decide_eq_true c)]
          exact ⟨.ref p, rfl, p, _, rfl, sq_of (e7 _ _ (B6 _ _ pa.1 I.at_)), fun r nr => o2 _ r e7 nr⟩
        · rw [if_neg (by rw [decide_eq_false c]; simp)]
          exact ⟨.ref p, rfl, o1 _ e7⟩
end
section
open Evl
abbrev rAddS : R2 := fun x y H Q => ∃ i j, x = V.str i ∧ y = V.str j ∧ i.length + j.length ≤ sizeLine ∧ Q (V.str (i ++ j)) H
/-- a drawn sign before a drawn name -/
theorem sg_run {σ : L2.St} {H : Hp} {te : TE} {a l : Addr} {ns : List Int} {i : Nat} {F : Str → Prop} (hi : σ[i]? = some (some (V.ref a))) (S : SrcL H a l ns) (hN : ∀ H1, SrcL H1 a l ns → But a H H1 → ∀ Q : VK, (∀ H2 n, isName n = true → F n → SrcL H2 a l ns → But a H1 H2 → Q (.str n) H2) → te σ H1 Q) (Q : VK)
    (q : ∀ H2 z, isLit z = true → F (bare z) → SrcL H2 a l ns → But a H H2 → Q (.str z) H2) : tOp rAddS (tOp (rIxL K) (tLst (tCons (tC (.str "")) (tCons (tC (.str "-")) tNil))) (tCall spTakeL [] E0 (tCons (tVar i) (tCons (tC (.int 2)) tNil)))) te σ H Q := by
  refine q_op (q_op (r := rIxL K) ?_)
  refine ⟨(by show 2 ≤ sizeLine; decide), fun d nd => ⟨.ref a, hi, a, 2, l, _, rfl, srl_new S nd, by decide, by decide, fun H6 t t0 t1 S6 B6 => ?_⟩⟩
  have offd := srl_off S nd
  have hd6 : H6 d = some (.lst [.str "", .str "-"]) := B6 d _ offd.1 upd_same
  have B06 : But a H H6 := fun c o n e => B6 c o n (by rw [upd_ne (ne_of_none e nd)]; exact e)
  obtain ⟨ds, hds, dd2⟩ : ∃ ds : Str, ([V.str "", .str "-"] : List V)[t.toNat]? = some (.str ds) ∧ (ds = "" ∨ ds = "-") := by
    have h2 : t = 0 ∨ t = 1 := by omega
    rcases h2 with rfl | rfl
    · exact ⟨"", rfl, .inl rfl⟩
    · exact ⟨"-", rfl, .inr rfl⟩
  refine ⟨d, _, t, _, rfl, rfl, SqL.of hd6, at_of (by omega) hds, ?_⟩
  refine hN H6 S6 B06 _ fun H7 n nk fn S7 B7 => ?_
  have z9 : isLit (ds ++ n) = true ∧ bare (ds ++ n) = n := by
    rcases dd2 with rfl | rfl
    · rw [empty_app]; exact ⟨name_lit nk, bare_no (name_dash nk)⟩
    · exact ⟨minus_lit nk, bare_minus n⟩
  have d1 : ds.length ≤ 1 := by rcases dd2 with rfl | rfl <;> decide
  refine ⟨_, _, rfl, rfl, line_of ?_, q H7 _ z9.1 (by rw [z9.2]; exact fn) S7 (B06.trans B7)⟩
  have h2 : n.length = n.cps.size := rfl
  have := (name_txt nk).1
  omega
theorem two_lit {x y : Str} {nms : List Str} (hx : isLit x = true) (hy : isLit y = true) (ne : bare x ≠ bare y) (mx : bare x ∈ nms) (my : bare y ∈ nms) : RowL 4 [x, y] ∧ ∀ z ∈ [x, y], bare z ∈ nms := by
  refine ⟨⟨by simp, fun z m => ?_, ?_⟩, fun z m => ?_⟩
  · simp only [List.mem_cons, List.not_mem_nil, or_false] at m
    rcases m with rfl | rfl <;> assumption
  · rw [List.map_cons, List.map_cons, List.map_nil]
    simp [ne]
  · simp only [List.mem_cons, List.not_mem_nil, or_false] at m
    rcases m with rfl | rfl <;> assumption
theorem ev_neg {σ : L2.St} {H : Hp} {ta : TE} {a : Int} (h1 : Ev ta σ H (.int a)) : Ev (tUn (rU fun i => .int (-i)) ta) σ H (.int (-a)) := fun H1 e1 Q q => h1 H1 e1 _ fun H2 e2 => ⟨_, rfl, q H2 e2⟩
/-- _law_loop(source, names) -/
def spLoop : Sp := fun vs H Q _ => ∃ (a l : Addr) (ns : List Int) (b : Addr) (nms : List Str), vs = [.ref a, .ref b] ∧ SrcL H a l ns ∧ H b = some (.lst (nms.map V.str)) ∧ b ≠ a ∧ 0 < nms.length ∧ nms.length ≤ 8 ∧ (∀ z ∈ nms, isName z = true) ∧ nms.Nodup ∧ RwOutB 12 30 H a l ns nms Q
theorem ok__law_loop (T : Txt P K mg) : FnOk P w K mg base CX0 3 T.f__law_loop T.d__law_loop ["_law_source_here", "_law_names_here"] spLoop := by
  refine T.F__law_loop.ok sc__law_loop (fun vs H Q E h => ?_) (fun cdv A outer s H vs Q E hr h => ?_)
  · obtain ⟨a, l, ns, b, nms, rfl, _⟩ := h
    rfl
  · obtain ⟨a, l, ns, b, nms, rfl, S, hb, ba, n0, n12, nm, nd, q⟩ := h
    refine ⟨_, (pss_cons (ps_setLc (te := tOp rAddS (tOp (rIxL K) (tLst (tCons (tC (.str "")) (tCons (tC (.str "-")) tNil))) (tCall spTakeL [] E0 (tCons (tVar 0) (tCons (tC (.int 2)) tNil)))) (tVar 5)) (i := 2) (own := [("_law_name_here", 5)]) (g := gName 5) (by rfl) sc__law_loop.nd rfl rfl (sw_true rfl rfl rfl (by decide +kernel)) (pi_list (pv 1)) (blkOk_by (own := [("_law_name_here", 5)]) (N := N__law_loop) (sc := defScope s__law_loop) (by decide +kernel)) (fun _ _ _ _ _ => pg_name (i := 5) sc__law_loop.nd rfl (Or.inl rfl)) (fun _ _ _ _ _ => pts_nil) (fun _ _ _ _ _ => (pe_op op_add_str (pe_ix (r := rIxL K) ix_list (pe_lst (pa_cons pe_str (pa_cons pe_str pa_nil))) (pe_call (okL__law_take T) (hr.mono (by decide)) rfl T.g__law_take T.F__law_take.kp T.b__law_take .nil pass0 (pa_cons (pv 0) (pa_cons pe_int pa_nil))) (fun _ _ => rfl)) (pv 5))))
      (pss_cons (ps_set (i := 3) sc__law_loop.nd rfl (.inl rfl) (pe_lst pa_nil))
      (pss_cons (ps_for PassesOwn.never rfl (pi_range1 rfl T.n_range (pa_cons (pe_op op_sub (pe_callB call_len_seq (by rfl) T.n_len PySem.boot_len (pa_cons (pv 1) pa_nil)) pe_int) pa_nil)) (pg_name (i := 4) sc__law_loop.nd rfl (.inl rfl)) (pss_one (ps_expr (pe_bm PySem.F.plainAttrs_list PySem.F.slot_list_append PySem.F.type_list_append mt_append (pv 3) (pa_cons (pe_lst (pa_cons (pe_ix ix_list (pv 2) (pv 4) (fun _ _ => rfl)) (pa_cons (pe_call (ok__law_flip T) (hr.mono (by decide)) rfl T.g__law_flip T.F__law_flip.kp T.b__law_flip .nil pass0 (pa_cons (pe_ix ix_list (pv 2) (pe_op op_add (pv 4) pe_int) (fun _ _ => rfl)) pa_nil)) pa_nil))) pa_nil)))))
      (Evl.pss_cut (ps_if (PW.pt (pw_and (pt_cmpR op_gt (pe_callB call_len_seq (by rfl) T.n_len PySem.boot_len (pa_cons (pv 1) pa_nil)) pe_int (by rfl)) (pw_and1 (pt_cmpR op_gt (pe_call (okL__law_take T) (hr.mono (by decide)) rfl T.g__law_take T.F__law_take.kp T.b__law_take .nil pass0 (pa_cons (pv 0) (pa_cons pe_int pa_nil))) pe_int (by rfl))))) (pss_one (ps_expr (pe_bm PySem.F.plainAttrs_list PySem.F.slot_list_append PySem.F.type_list_append mt_append (pv 3) (pa_cons (pe_lst (pa_cons (pe_ix ix_list (pv 2) (pe_un un_neg pe_int) (fun _ _ => rfl)) (pa_cons (pe_ix ix_list (pv 2) (pe_un un_neg pe_int) (fun _ _ => rfl)) pa_nil))) pa_nil)))) pss_nil)
      (Evl.pss_cut (ps_if (PW.pt (pw_and (pt_cmpR op_gt (pe_callB call_len_seq (by rfl) T.n_len PySem.boot_len (pa_cons (pv 1) pa_nil)) pe_int (by rfl)) (pw_and1 (pt_cmpR op_gt (pe_call (okL__law_take T) (hr.mono (by decide)) rfl T.g__law_take T.F__law_take.kp T.b__law_take .nil pass0 (pa_cons (pv 0) (pa_cons pe_int pa_nil))) pe_int (by rfl))))) (pss_one (ps_expr (pe_bm PySem.F.plainAttrs_list PySem.F.slot_list_append PySem.F.type_list_append mt_append (pv 3) (pa_cons (pe_lst (pa_cons (pe_call (ok__law_flip T) (hr.mono (by decide)) rfl T.g__law_flip T.F__law_flip.kp T.b__law_flip .nil pass0 (pa_cons (pe_ix ix_list (pv 2) pe_int (fun _ _ => rfl)) pa_nil)) (pa_cons (pe_call (ok__law_flip T) (hr.mono (by decide)) rfl T.g__law_flip T.F__law_flip.kp T.b__law_flip .nil pass0 (pa_cons (pe_ix ix_list (pv 2) pe_int (fun _ _ => rfl)) pa_nil)) pa_nil))) pa_nil)))) pss_nil)
      (pss_cons (ps_for PassesOwn.never rfl (pi_range1 rfl T.n_range (pa_cons (pe_call (okL__law_take T) (hr.mono (by decide)) rfl T.g__law_take T.F__law_take.kp T.b__law_take .nil pass0 (pa_cons (pv 0) (pa_cons pe_int pa_nil))) pa_nil)) (pg_name (i := 4) sc__law_loop.nd rfl (.inl rfl)) (pss_one (ps_expr (pe_bm PySem.F.plainAttrs_list PySem.F.slot_list_append PySem.F.type_list_append mt_append (pv 3) (pa_cons (pe_call (ok__law_row T) (hr.mono (by decide)) rfl T.g__law_row T.F__law_row.kp T.b__law_row .nil pass0 (pa_cons (pv 0) (pa_cons (pv 1) (pa_cons pe_int pa_nil)))) pa_nil)))))
      (pss_cons (ps_if (pt_cmpR op_eq (pe_call (okL__law_take T) (hr.mono (by decide)) rfl T.g__law_take T.F__law_take.kp T.b__law_take .nil pass0 (pa_cons (pv 0) (pa_cons pe_int pa_nil))) pe_int (by rfl)) (pss_one (ps_ret (pe_revL (pv 3)))) pss_nil)
      (pss_one (ps_ret (pv 3)))))))))), ?_⟩
    refine q_asgRaw ⟨.ref b, rfl, b, rfl, ⟨_, sq_of hb⟩, fun tl ntl => ?_⟩
    have ta := srl_off S ntl
    have tb : tl ≠ b := fun e => by rw [e, hb] at ntl; cases ntl
    refine lc_list (K := K) (xs := nms.map V.str) (fun i H' => SrcL H' a l ns ∧ But a H H' ∧ ∃ M : List Str, H' tl = some (.lst (M.map V.str)) ∧ M.length = i ∧ (∀ z ∈ M, isLit z = true) ∧ M.map bare = nms.take i) ⟨srl_new S ntl, fun c o n h => by rw [upd_ne (ne_of_none h ntl)]; exact h, [], upd_same, rfl, (fun z m => nomatch m), rfl⟩ (fun i H' _ ⟨_, B, _⟩ => sq_of (B _ _ ba hb)) ?_ ?_
    · rintro i x H1 hi ⟨S1, B1, M, h1, len, lit, br⟩
      obtain ⟨nme, hz, rfl⟩ := pick_str hi
      have li : i < nms.length := (List.getElem?_eq_some_iff.mp hz).1
      refine ⟨rfl, ?_⟩
      unfold tYes
      dsimp only
      rw [if_pos rfl]
      refine sg_run (F := fun n => n = nme) rfl S1 (fun H2 S2 B2 Q1 k1 => ⟨_, rfl, k1 H2 nme (nm _ (List.mem_of_getElem? hz)) rfl S2 But.refl⟩) _ fun H2 z lz bz S2 B2 => ?_
      have h2 := B2 _ _ ta.1 h1
      refine ⟨_, h2, by rw [List.length_map]; exact sz_lt (by omega), srl_put S2 ta.1 ta.2, fun c o n h => ?_, M ++ [z], by rw [upd_same, List.map_append]; rfl, by rw [List.length_append, len]; rfl, fun y my => ?_, ?_⟩
      · rw [upd_ne (ne_of_none h ntl)]
        exact B2 _ _ n (B1 _ _ n h)
      · rcases List.mem_append.mp my with m | m
        · exact lit y m
        · rw [List.mem_singleton.mp m]; exact lz
      · rw [List.map_append, br, List.take_add_one, hz, List.map_cons, bz]
        rfl
    rintro H1 ⟨S1, B1, M, h1, len, lit, br⟩
    rw [List.length_map] at len br
    rw [List.take_length] at br
    dsimp only [gName]
    have lenM : M.length = nms.length := len
    have bM : ∀ k (h : k < M.length), bare M[k] = nms[k]'(by omega) := fun k h => by
      have z : (M.map bare)[k]'(by rw [List.length_map]; exact h) = nms[k]'(by omega) := by congr 1
      rw [List.getElem_map] at z
      exact z
    refine q_asgL (xs := []) (el_lst ea_nil (by decide)) fun p H2 np e2 hp => ?_
    have np0 : H p = none := B1.fr S1 np
    have I2 : RwI H a l ns nms M tl 4 H2 p [] := ⟨srl_ex S1 e2, fun c o n h => e2 _ _ (B1 c o n h), e2 _ _ h1, np0, (fun e => by rw [← e, h1] at np; cases np), hp, ⟨(fun x mx => nomatch mx), (fun x mx => nomatch mx), (fun x mx => nomatch mx)⟩, (fun x mx => nomatch mx)⟩
    have gM : ∀ k (h : k < M.length), (M.map V.str)[k]? = some (.str M[k]) := fun k h => by rw [List.getElem?_map, List.getElem?_eq_getElem h]; rfl
    have nlE : ((nms.map V.str).length : Int) = (nms.length : Int) := by rw [List.length_map]
    have pair : ∀ i j (hi : i < M.length) (hj : j < M.length), i ≠ j → ∀ x, isLit x = true → bare x = bare M[j] → RowL 4 [M[i], x] ∧ ∀ z ∈ [M[i], x], bare z ∈ nms := fun i j hi hj ne x lx bx => by
      refine two_lit (lit _ (List.getElem_mem hi)) lx ?_ ?_ ?_
      · rw [bx, bM i hi, bM j hj]
        intro e
        have z := List.pairwise_iff_getElem.mp nd
        rcases Nat.lt_or_gt_of_ne ne with h | h
        · exact z i j (by omega) (by omega) h e
        · exact z j i (by omega) (by omega) h e.symm
      · rw [bM i hi]; exact List.getElem_mem _
      · rw [bx, bM j hj]; exact List.getElem_mem _
    refine q_forR1 (n := (nms.length : Int) - 1) (j := 4) (ea_cons (ev_op (ev_is (ev_len (ev_var rfl) (sq_of (I2.but _ _ ba hb))) (by rw [nlE])) ev_c (fun H1 _ Q q => ⟨_, _, rfl, rfl, q H1 (Ex.refl H1)⟩)) ea_nil) (by omega) (fun i σ H' => ∃ (v4 : Option V) (rs : List (Addr × List Str)), σ = [some (V.ref a), some (.ref b), some (.ref tl), some (.ref p), v4, none] ∧ RwI H a l ns nms M tl 4 H' p rs ∧ rs.length = i ∧ (rowNames rs).length ≤ 2 * i) (fun H3 e3 => ⟨none, [], rfl, I2.ex e3, rfl, Nat.le_refl _⟩) ?_ ?_
    · rintro i σ H3 hi ⟨v4, rs, rfl, I, lr, sr⟩
      have l1 : i < M.length := by omega
      have l2 : i + 1 < M.length := by omega
      have lf := lit _ (List.getElem_mem l2)
      obtain ⟨row, sub⟩ := pair i (i + 1) l1 l2 (by omega) (flip M[i + 1]) (flip_lit lf) (bare_flip lf)
      refine s_appL (K := K) (l := p) (ys := [.str M[i], .str (flip M[i + 1])]) I.at_ (ev_var rfl) (el_lst (ea_cons (ev_op (ev_var rfl) (ev_var rfl) (rv_ixL (sq_of I.turned) (atI_nat (j := i) (gM i l1)))) (ea_cons (ev_flipS (ev_op (y := .int ((i + 1 : Nat) : Int)) (ev_var rfl) (ev_is (v := .int ((i : Int) + 1)) (ev_op (ev_var rfl) ev_c (fun H1 _ Q q => ⟨_, _, rfl, rfl, q H1 (Ex.refl H1)⟩)) (by congr 1)) (rv_ixL (sq_of I.turned) (atI_nat (j := i + 1) (gM _ l2)))) (Nat.le_trans (lit_txt lf).1 (by decide))) ea_nil)) (by show 2 ≤ 100000; omega)) (by rw [List.length_map]; omega) fun r H4 nr e4 hr => ?_
      exact ⟨_, _, rfl, I.push S ta.1 (srl_ex I.src e4) (fun c o n h => e4 _ _ h) nr (L := [M[i], flip M[i + 1]]) hr row sub, by rw [List.length_append, lr]; rfl, by rw [rn_app, List.length_append]; show _ + 2 ≤ _; omega⟩
    · rintro σ H3 ⟨v4, rs, rfl, I, lr, sr⟩
      have lr7 : rs.length ≤ 7 := by omega
      have sr14 : (rowNames rs).length ≤ 14 := by omega
      have pa := srl_off S I.new
      refine ⟨fun σ' H' => ∃ (rs : List (Addr × List Str)), σ' = [some (V.ref a), some (.ref b), some (.ref tl), some (.ref p), v4, none] ∧ RwI H a l ns nms M tl 4 H' p rs ∧ rs.length ≤ 8 ∧ (rowNames rs).length ≤ 16, ?_, ?_⟩
      · have hb3 := I.but _ _ ba hb
        refine (ev_op (x := .int (nms.length : Int)) (ev_is (ev_len (ev_var rfl) (sq_of hb3)) (by rw [nlE])) ev_c (fun H1 _ Q q => ⟨_, _, rfl, rfl, q H1 (Ex.refl H1)⟩)) _ (Ex.refl _) _ fun H4 e4 => ⟨_, rfl, ?_⟩
        have I4 := I.ex e4
        refine ite2 (fun big => ?_) (fun _ => ⟨rs, rfl, I4, by omega, by omega⟩)
        have big : 1 < nms.length := by have := of_decide_eq_true big; omega
        refine ⟨.ref a, rfl, a, 4, l, ns, rfl, I4.src, by decide, by decide, fun H5 t t0 t1 S5 B5 => ⟨_, _, rfl, rfl, _, rfl, ?_⟩⟩
        have I5 := I4.go S ta.1 S5 B5
        refine ite2 (fun _ => ?_) (fun _ => ⟨rs, rfl, I5, by omega, by omega⟩)
        have l1 : M.length - 1 < M.length := by omega
        have l2 : M.length - 2 < M.length := by omega
        obtain ⟨row, sub⟩ := pair (M.length - 1) (M.length - 2) l1 l2 (by omega) M[M.length - 2] (lit _ (List.getElem_mem l2)) rfl
        have back : ∀ (k : Nat) (h : k < M.length) (i : Int), i = (k : Int) - (M.length : Int) → atI (M.map V.str) i = some (.str M[k]) := fun k h i e => by
          unfold atI ixN
          rw [if_neg (by omega), if_pos (by rw [List.length_map]; omega)]
          show (M.map V.str)[(i + ((M.map V.str).length : Int)).toNat]? = _
          rw [show (i + ((M.map V.str).length : Int)).toNat = k by rw [List.length_map]; omega]
          exact gM k h
        refine s_appL (K := K) (l := p) (ys := [.str M[M.length - 1], .str M[M.length - 2]]) I5.at_ (ev_var rfl) (el_lst (ea_cons (ev_op (ev_var rfl) (ev_neg ev_c) (rv_ixL (sq_of I5.turned) (back _ l1 _ (by omega)))) (ea_cons (ev_op (ev_var rfl) (ev_neg ev_c) (rv_ixL (sq_of I5.turned) (back _ l2 _ (by omega)))) ea_nil)) (by show 2 ≤ 100000; omega)) (by rw [List.length_map]; omega) fun r H6 nr e6 hr => ?_
        exact ⟨_, rfl, I5.push S ta.1 (srl_ex I5.src e6) (fun c o n h => e6 _ _ h) nr (L := [M[M.length - 1], M[M.length - 2]]) hr row sub, by rw [List.length_append]; show rs.length + 1 ≤ 8; omega, by rw [rn_app, List.length_append]; show _ + 2 ≤ _; omega⟩
      rintro σ' H4 ⟨rs, rfl, I, lr, sr⟩
      refine ⟨fun σ' H' => ∃ (rs : List (Addr × List Str)), σ' = [some (V.ref a), some (.ref b), some (.ref tl), some (.ref p), v4, none] ∧ RwI H a l ns nms M tl 4 H' p rs ∧ rs.length ≤ 9 ∧ (rowNames rs).length ≤ 18, ?_, ?_⟩
      · have hb3 := I.but _ _ ba hb
        refine (ev_op (x := .int (nms.length : Int)) (ev_is (ev_len (ev_var rfl) (sq_of hb3)) (by rw [nlE])) ev_c (fun H1 _ Q q => ⟨_, _, rfl, rfl, q H1 (Ex.refl H1)⟩)) _ (Ex.refl _) _ fun H4 e4 => ⟨_, rfl, ?_⟩
        have I4 := I.ex e4
        refine ite2 (fun big => ?_) (fun _ => ⟨rs, rfl, I4, by omega, by omega⟩)
        have big : 1 < nms.length := by have := of_decide_eq_true big; omega
        refine ⟨.ref a, rfl, a, 4, l, ns, rfl, I4.src, by decide, by decide, fun H5 t t0 t1 S5 B5 => ⟨_, _, rfl, rfl, _, rfl, ?_⟩⟩
        have I5 := I4.go S ta.1 S5 B5
        refine ite2 (fun _ => ?_) (fun _ => ⟨rs, rfl, I5, by omega, by omega⟩)
        have l1 : 0 < M.length := by omega
        have l2 : 1 < M.length := by omega
        have f0 := lit _ (List.getElem_mem l1)
        have f1 := lit _ (List.getElem_mem l2)
        obtain ⟨row, sub⟩ := two_lit (nms := nms) (flip_lit f0) (flip_lit f1) (by
          rw [bare_flip f0, bare_flip f1, bM 0 l1, bM 1 l2]
          exact (List.pairwise_iff_getElem.mp nd) 0 1 (by omega) (by omega) (by decide)) (by rw [bare_flip f0, bM 0 l1]; exact List.getElem_mem _) (by rw [bare_flip f1, bM 1 l2]; exact List.getElem_mem _)
        refine s_appL (K := K) (l := p) (ys := [.str (flip M[0]), .str (flip M[1])]) I5.at_ (ev_var rfl) (el_lst (ea_cons (ev_flipS (ev_op (ev_var rfl) ev_c (rv_ixL (sq_of I5.turned) (atI_nat (j := 0) (gM 0 l1)))) (Nat.le_trans (lit_txt f0).1 (by decide))) (ea_cons (ev_flipS (ev_op (ev_var rfl) ev_c (rv_ixL (sq_of I5.turned) (atI_nat (j := 1) (gM 1 l2)))) (Nat.le_trans (lit_txt f1).1 (by decide))) ea_nil)) (by show 2 ≤ 100000; omega)) (by rw [List.length_map]; omega) fun r H6 nr e6 hr => ?_
        exact ⟨_, rfl, I5.push S ta.1 (srl_ex I5.src e6) (fun c o n h => e6 _ _ h) nr (L := [flip M[0], flip M[1]]) hr row sub, by rw [List.length_append]; show rs.length + 1 ≤ 9; omega, by rw [rn_app, List.length_append]; show _ + 2 ≤ _; omega⟩
      rintro σ' H4 ⟨rs, rfl, I, lr, sr⟩
      refine ⟨.ref a, rfl, a, 3, l, ns, rfl, I.src, by decide, by decide, fun H5 t t0 t1 S5 B5 => ?_⟩
      have I5 := I.go S ta.1 S5 B5
      refine ⟨t, rfl, by omega, by omega, for_range (lo := 0) (n := t.toNat) (fun i σ H' => ∃ (v4 : Option V) (rs' : List (Addr × List Str)), σ = [some (V.ref a), some (.ref b), some (.ref tl), some (.ref p), v4, none] ∧ RwI H a l ns nms M tl 4 H' p rs' ∧ rs'.length = rs.length + i ∧ (rowNames rs').length ≤ 18 + 3 * i) ⟨v4, rs, rfl, I5, rfl, by omega⟩ ?_ ?_⟩
      · rintro i σ H6 hi ⟨v4', rs', rfl, I6, len, sum⟩
        refine ⟨.ref p, rfl, Or.inl ⟨rfl, _, SqL.of I6.at_⟩, .ref a, rfl, .ref b, rfl, a, l, ns, b, nms, 3, rfl, by decide, I6.src, I6.but _ _ ba hb, ba, n0, by omega, nm, fun H9 r L nr S9 B9 hr row sub => ⟨p, _, .ref r, rfl, rfl, B9 _ _ pa.1 I6.at_, sz_lt (by rw [List.length_map]; omega), ?_⟩⟩
        exact ⟨_, _, rfl, I6.push S ta.1 S9 B9 nr hr (row.mono (by decide)) sub, by rw [List.length_append]; show rs'.length + 1 = _; omega, by
          have l3 := row.few
          rw [rn_app, List.length_append]
          have e : (rowNames [(r, L)]).length = L.length := by
            show (L.map bare ++ []).length = _
            rw [List.append_nil, List.length_map]
          omega⟩
      · rintro σ H6 ⟨v4', rs', rfl, I6, len, sum⟩
        have sum : (rowNames rs').length ≤ 30 := by omega
        refine ⟨.ref a, rfl, a, 2, l, ns, rfl, I6.src, by decide, by decide, fun H7 v v0 v1 S7 B7 => ?_⟩
        obtain ⟨o1, o2⟩ := rev_or q S ta.1 I6 (by omega) sum S7 B7
        refine tc_eq rfl fun H8 e8 => ⟨_, rfl, ?_⟩
        dsimp only
        by_cases c : V.int v = V.int 1
        · rw [if_pos (decide_eq_true c)]
          exact ⟨.ref p, rfl, p, _, rfl, sq_of (e8 _ _ (B7 _ _ pa.1 I6.at_)), fun r nr => o2 _ r e8 nr⟩
        · rw [if_neg (by rw [decide_eq_false c]; simp)]
          exact ⟨.ref p, rfl, o1 _ e8⟩
end
section
open Evl
/-- _law_world(source, names) -/
def spWorld : Sp := fun vs H Q _ => ∃ (a l : Addr) (ns : List Int) (b : Addr) (nms : List Str), vs = [.ref a, .ref b] ∧ SrcL H a l ns ∧ H b = some (.lst (nms.map V.str)) ∧ b ≠ a ∧ 0 < nms.length ∧ nms.length ≤ 8 ∧ (∀ z ∈ nms, isName z = true) ∧ nms.Nodup ∧ RwOutB 24 60 H a l ns nms Q
theorem ok__law_world (T : Txt P K mg) : FnOk P w K mg base CX0 4 T.f__law_world T.d__law_world ["_law_source_here", "_law_names_here"] spWorld := by
  refine T.F__law_world.ok sc__law_world (fun vs H Q E h => ?_) (fun cdv A outer s H vs Q E hr h => ?_)
  · obtain ⟨a, l, ns, b, nms, rfl, _⟩ := h
    rfl
  · obtain ⟨a, l, ns, b, nms, rfl, S, hb, ba, n0, n8, nm, nd, q⟩ := h
    refine ⟨_, (pss_cons (ps_set (i := 2) sc__law_world.nd rfl (.inl rfl) (pe_call (okL__law_take T) (hr.mono (by decide)) rfl T.g__law_take T.F__law_take.kp T.b__law_take .nil pass0 (pa_cons (pv 0) (pa_cons pe_int pa_nil))))
      (pss_cons (ps_if (pt_cmpR op_lt (pv 2) pe_int (by rfl)) (pss_one (ps_ret (pe_call (ok__law_knots T) (hr.mono (by decide)) rfl T.g__law_knots T.F__law_knots.kp T.b__law_knots .nil pass0 (pa_cons (pv 0) (pa_cons (pv 1) pa_nil))))) pss_nil)
      (pss_cons (ps_set (i := 3) sc__law_world.nd rfl (.inl rfl) (pe_call (ok__law_loop T) (hr.mono (by decide)) rfl T.g__law_loop T.F__law_loop.kp T.b__law_loop .nil pass0 (pa_cons (pv 0) (pa_cons (pv 1) pa_nil))))
      (pss_cons (ps_if (pt_cmpR op_eq (pe_call (okL__law_take T) (hr.mono (by decide)) rfl T.g__law_take T.F__law_take.kp T.b__law_take .nil pass0 (pa_cons (pv 0) (pa_cons pe_int pa_nil))) pe_int (by rfl)) (pss_one (ps_ret (pe_op op_cat (pv 3) (pv 3)))) pss_nil)
      (pss_one (ps_ret (pv 3))))))), ?_⟩
    refine ⟨.ref a, rfl, a, 3, l, ns, rfl, S, by decide, by decide, fun H1 st st0 st1 S1 B1 => ?_⟩
    dsimp only [gName]
    have hb1 := B1 _ _ ba hb
    refine q_when (b := decide (st < 2)) (et_test (ev_op (ev_var rfl) ev_c (fun H1 _ Q q => ⟨_, _, rfl, rfl, q H1 (Ex.refl H1)⟩))) (fun c H2 e2 => ?_) (fun c H2 e2 => ?_)
    · refine ⟨.ref a, rfl, .ref b, rfl, a, l, ns, b, nms, rfl, srl_ex S1 e2, e2 _ _ hb1, ba, n0, by omega, nm, fun H3 p rs np S3 B3 hp nr l20 l60 => ?_⟩
      have B13 : But a H H3 := fun c o n h => B3 c o n (e2 _ _ (B1 c o n h))
      exact q H3 p rs (B1.fr S1 (fresh_back e2 np)) S3 B13 hp ⟨fun x mx => ⟨(nr.at_ x mx).1, B1.fr S1 (fresh_back e2 (nr.at_ x mx).2)⟩, nr.row, nr.sub⟩ (by omega) l60
    · refine ⟨.ref a, rfl, .ref b, rfl, a, l, ns, b, nms, rfl, srl_ex S1 e2, e2 _ _ hb1, ba, n0, n8, nm, nd, fun H3 p rs np S3 B3 hp nr l12 l30 => ?_⟩
      dsimp only [gName]
      have B13 : But a H H3 := fun c o n h => B3 c o n (e2 _ _ (B1 c o n h))
      have np0 : H p = none := B1.fr S1 (fresh_back e2 np)
      have pa := srl_off S np0
      have nr3 : NewR 4 H H3 nms rs := ⟨fun x mx => ⟨(nr.at_ x mx).1, B1.fr S1 (fresh_back e2 (nr.at_ x mx).2)⟩, nr.row, nr.sub⟩
      refine ⟨.ref a, rfl, a, 2, l, ns, rfl, S3, by decide, by decide, fun H4 v v0 v1 S4 B4 => ?_⟩
      have hp4 := B4 _ _ pa.1 hp
      have nr4 := nr3.keep S B4
      have B14 : But a H H4 := B13.trans B4
      refine tc_eq rfl fun H5 e5 => ⟨_, rfl, ?_⟩
      have S5 := srl_ex S4 e5
      have nr5 := nr4.ex e5
      have hp5 := e5 _ _ hp4
      have B15 : But a H H5 := fun c o n h => e5 _ _ (B14 c o n h)
      dsimp only
      by_cases c2 : V.int v = V.int 1
      · rw [if_pos (decide_eq_true c2)]
        refine ⟨.ref p, rfl, .ref p, rfl, p, p, _, _, rfl, rfl, hp5, hp5, by rw [List.length_map]; exact Nat.le_of_lt (sz_lt (by omega)), fun r nr0 => ?_⟩
        have er : Ex H5 (upd H5 r (.lst ((rs.map fun x => V.ref x.1) ++ rs.map fun x => V.ref x.1))) := Ex.new nr0
        exact q _ r (rs ++ rs) (B15.fr S5 nr0) (srl_ex S5 er) (fun c o n h => er _ _ (B15 c o n h)) (by rw [upd_same, List.map_append]) ((nr5.ex er).app (nr5.ex er)) (by rw [List.length_append]; omega) (by rw [rn_app, List.length_append]; omega)
      · rw [if_neg (by rw [decide_eq_false c2]; simp)]
        exact ⟨.ref p, rfl, q _ p rs np0 S5 B15 hp5 nr5 (by omega) (by omega)⟩
end
section
open Evl
theorem last_at {xs : List Rx} (h : 0 < xs.length) : ((xs.map (·.1)).map V.int)[xs.length - 1]? = some (.int (lastX xs)) := by
  have lt : xs.length - 1 < xs.length := by omega
  rw [List.getElem?_map, List.getElem?_map, List.getElem?_eq_getElem lt]
  unfold lastX
  rw [List.getLast?_eq_getElem?, List.getElem?_eq_getElem lt]
  rfl
theorem last_mem {xs : List Rx} : lastX xs = 0 ∨ lastX xs ∈ xs.map (·.1) := by
  unfold lastX
  cases h : xs.getLast? with
  | none => exact .inl rfl
  | some x => exact .inr (List.mem_map.mpr ⟨x, List.mem_of_getLast? h, rfl⟩)
theorem last_top {xs : List Rx} (asc : (xs.map (·.1)).Pairwise (· < ·)) : ∀ n ∈ xs.map (·.1), n ≤ lastX xs := by
  intro n hn
  have pos : 0 < xs.length := by
    cases xs with
    | nil => cases hn
    | cons => exact Nat.succ_pos _
  have z := last_at pos
  rw [List.getElem?_map] at z
  obtain ⟨m, hm, e⟩ := Option.map_eq_some_iff.mp z
  obtain rfl : m = lastX xs := V.int.inj e
  obtain ⟨i, hi, rfl⟩ := List.mem_iff_getElem.mp hn
  obtain ⟨hl, e2⟩ := List.getElem?_eq_some_iff.mp hm
  rw [List.length_map] at hi
  by_cases c : i = xs.length - 1
  · subst c; omega
  · have z := List.pairwise_iff_getElem.mp asc i (xs.length - 1) (by rw [List.length_map]; exact hi) hl (by omega)
    omega
theorem BkAt.but {C CB : Addr} {H H' : Hp} {b dx d a : Addr} {ps : List Ent} {last : Int} {xs : List V} (h : BkAt C CB H b dx d ps last) (ha : H a = some (.lst xs)) (B : But a H H') : BkAt C CB H' b dx d ps last := by
  have n : ∀ {c : Addr} {o : HO}, H c = some o → (∀ ys, o ≠ .lst ys) → H' c = some o := fun {c o} hc no => B _ _ (fun e => by rw [e, ha] at hc; exact no _ (Option.some.inj hc).symm) hc
  refine ⟨n h.at_ (by simp), n h.di (by simp), fun c m => ?_⟩
  obtain ⟨⟨dy, p, h1, h2⟩, ok⟩ := h.cls c m
  exact ⟨⟨dy, p, n h1 (by simp), n h2 (by simp)⟩, ok⟩
theorem srl_lst {H : Hp} {u l : Addr} {ns : List Int} (S : SrcL H u l ns) : ∃ ys, H u = some (.lst ys) := let ⟨⟨_, _, _, _, _, h⟩, _⟩ := S; ⟨_, h⟩
structure Offs (u ln lr : Addr) (es : List Rc) : Prop where
  ln : ln ≠ u
  lr : lr ≠ u
  ra : ∀ e ∈ es, e.ra ≠ u
theorem Wld.but {C CB u l : Addr} {H H' : Hp} {b dx d ln lr : Addr} {es : List Rc} {last : Int} {nms : List Str} {ns : List Int} (w : Wld C CB H b dx d ln lr es last nms) (O : Offs u ln lr es) (S : SrcL H u l ns) (B : But u H H') : Wld C CB H' b dx d ln lr es last nms :=
  ⟨w.B.but (srl_lst S).choose_spec B, ⟨B _ _ O.ln w.t.num, B _ _ O.lr w.t.rows, fun e m => B _ _ (O.ra e m) (w.t.each e m)⟩, w.o, w.n12, w.sub, w.nam⟩
theorem ev_ap0 {C CB : Addr} {σ : L2.St} {H : Hp} {t1 t2 t3 : TE} {E : XK} {b dx d ln lr : Addr} {es : List Rc} {last : Int} {nms : List Str} (h1 : Ev t1 σ H (.ref b)) (h2 : Ev t2 σ H (.ref ln)) (h3 : Ev t3 σ H (.ref lr)) (w : Wld C CB H b dx d ln lr es last nms) (n8 : nms.length ≤ 8) (few : (rowNames (es.map Rc.row)).length ≤ 60) : Ev (tOp (rIxL K) (tCall (spLAp C CB) [] E (tCons t1 (tCons t2 (tCons t3 tNil)))) (tC (.int 0))) σ H (.bl true) := fun H0 e0 Q q =>
  h1 H0 e0 _ fun H1 e1 => h2 H1 (e0.trans e1) _ fun H2 e2 => h3 H2 ((e0.trans e1).trans e2) _ fun H3 e3 => ⟨b, dx, d, ln, lr, es, last, nms, rfl, w.mono (((e0.trans e1).trans e2).trans e3), n8, few, fun H4 p x e4 np hp _ => (rv_ixL (sq_of hp) (atI_nat (j := 0) rfl)) H4 (Ex.refl H4) Q fun H5 e5 => q H5 ((((e1.trans e2).trans e3).trans e4).trans e5)⟩
theorem tr_bl {σ : L2.St} {H : Hp} {te : TE} {b : Bool} (h : Ev te σ H (.bl b)) : EvT (fun σ H Q => te σ H fun x H' => ∃ k, TruV K x H' k ∧ Q k H') σ H b := fun H1 e1 Q q => h H1 e1 _ fun H2 e2 => ⟨b, rfl, q H2 e2⟩
theorem ok_law (T : Txt P K mg) : FnOk P w K mg base CX0 19 T.f_law T.d_law ["_law_script"] (spLaw K) := by
  refine T.F_law.ok sc_law (fun vs H Q E h => ?_) (fun cdv A outer s H vs Q E hr h => ?_)
  · obtain ⟨a, ns0, rfl, _⟩ := h
    rfl
  · obtain ⟨a, ns0, rfl, hS, q⟩ := h
    refine ⟨_, (pss_cons (ps_set (i := 1) sc_law.nd rfl (.inl rfl) (pe_call (ok__law_source T) (hr.mono (by decide)) rfl T.g__law_source T.F__law_source.kp T.b__law_source .nil pass0 (pa_cons (pv 0) pa_nil)))
      (pss_cons (ps_set (i := 2) sc_law.nd rfl (.inl rfl) (pe_call (ok__law_names T) (hr.mono (by decide)) rfl T.g__law_names T.F__law_names.kp T.b__law_names .nil pass0 (pa_cons (pv 1) (pa_cons (pe_op op_add pe_int (pe_call (okL__law_take T) (hr.mono (by decide)) rfl T.g__law_take T.F__law_take.kp T.b__law_take .nil pass0 (pa_cons (pv 1) (pa_cons pe_int pa_nil)))) pa_nil))))
      (pss_cons (ps_set (i := 3) sc_law.nd rfl (.inl rfl) (pe_call (ok__law_world T) (hr.mono (by decide)) rfl T.g__law_world T.F__law_world.kp T.b__law_world .nil pass0 (pa_cons (pv 1) (pa_cons (pv 2) pa_nil))))
      (pss_cons (ps_set (i := 4) sc_law.nd rfl (.inl rfl) (pe_call (ok__law_numbers T) (hr.mono (by decide)) rfl T.g__law_numbers T.F__law_numbers.kp T.b__law_numbers .nil pass0 (pa_cons (pv 1) (pa_cons (pe_callB call_len_seq (by rfl) T.n_len PySem.boot_len (pa_cons (pv 3) pa_nil)) pa_nil))))
      (pss_cons (ps_set (i := 5) sc_law.nd rfl (.inl rfl) (pe_call (ok__law_book T) (hr.mono (by decide)) rfl T.g__law_book T.F__law_book.kp T.b__law_book .nil pass0 (pa_cons (pv 4) (pa_cons (pv 3) pa_nil))))
      (pss_cons (ps_if (pt_not (pt_truth (pe_ix ix_list (pe_call (ok__law_apart T) (hr.mono (by decide)) rfl T.g__law_apart T.F__law_apart.kp T.b__law_apart .nil pass0 (pa_cons (pv 5) (pa_cons (pv 4) (pa_cons (pv 3) pa_nil)))) pe_int (fun _ _ => rfl)) (by intro _; rfl))) (pss_one (ps_ret pe_bl)) pss_nil)
      (pss_cons (ps_set (i := 6) sc_law.nd rfl (.inl rfl) (pe_call (ok__law_apart T) (hr.mono (by decide)) rfl T.g__law_apart T.F__law_apart.kp T.b__law_apart .nil pass0 (pa_cons (pv 5) (pa_cons (pv 4) (pa_cons (pv 3) pa_nil)))))
      (pss_cons (ps_if (pt_not (pt_truth (pe_ix ix_list (pv 6) pe_int (fun _ _ => rfl)) (by intro _; rfl))) (pss_one (ps_ret pe_bl)) pss_nil)
      (pss_cons (ps_if (pt_cmpR op_eq (pe_callB call_len_seq (by rfl) T.n_len PySem.boot_len (pa_cons (pv 3) pa_nil)) pe_int (by rfl)) (pss_one (ps_ret pe_bl)) pss_nil)
      (pss_cons (ps_set (i := 7) sc_law.nd rfl (.inl rfl) (pe_bm PySem.F.plainAttrs_list PySem.F.slot_list_index PySem.F.type_list_index mt_index (pv 4) (pa_cons (pe_ix ix_list (pv 6) pe_int (fun _ _ => rfl)) pa_nil)))
      (pss_cons (ps_expr (pe_meth (pv 5) T.cl_Book (mDropR T) (ok_Book_drop T) (hr.mono (by decide)) T.b_Book_drop .nil passN0 (pa_cons (pe_ix ix_list (pv 4) (pv 7) (fun _ _ => rfl)) pa_nil)))
      (pss_cons (ps_set (i := 3) sc_law.nd rfl (.inl rfl) (pe_op op_cat (pe_slice sl_list (pv 3) po_none (po_some (pv 7))) (pe_slice sl_list (pv 3) (po_some (pe_op op_add (pv 7) pe_int)) po_none)))
      (pss_cons (ps_set (i := 4) sc_law.nd rfl (.inl rfl) (pe_op op_cat (pe_slice sl_list (pv 4) po_none (po_some (pv 7))) (pe_slice sl_list (pv 4) (po_some (pe_op op_add (pv 7) pe_int)) po_none)))
      (pss_one (ps_ret (pe_ix ix_list (pe_call (ok__law_apart T) (hr.mono (by decide)) rfl T.g__law_apart T.F__law_apart.kp T.b__law_apart .nil pass0 (pa_cons (pv 5) (pa_cons (pv 4) (pa_cons (pv 3) pa_nil)))) pe_int (fun _ _ => rfl))))))))))))))))), ?_⟩
    refine ⟨.ref a, rfl, a, ns0, rfl, hS, fun H1 u S1 nu0 same => ?_⟩
    obtain ⟨l, ns, SL⟩ := S1
    dsimp only [gName]
    refine ⟨.ref u, rfl, .ref u, rfl, u, 7, l, ns, rfl, SL, by decide, by decide, fun H2 t t0 t1 S2 B2 => ⟨_, _, rfl, rfl, u, l, ns, _, rfl, S2, by omega, by omega, fun H3 pn nms n3 S3 B3 h3 cnt ok nd => ?_⟩⟩
    dsimp only [gName]
    obtain ⟨t, rfl⟩ := Int.eq_ofNat_of_zero_le t0
    have lnm : nms.length = 2 + t := by omega
    have pnu := (srl_off S2 n3).1
    clear same
    -- the rows
    refine ⟨.ref u, rfl, .ref pn, rfl, u, l, ns, pn, nms, rfl, S3, h3, pnu, by omega, by omega, ok, nd, fun H6 lr rs nlr S6 B6 hlr nr l24 l60 => ?_⟩
    dsimp only [gName]
    have lru := (srl_off S3 nlr).1
    have rsA : ∀ x ∈ rs, H6 x.1 = some (.lst (x.2.map V.str)) ∧ x.1 ≠ u ∧ RowL 4 x.2 ∧ ∀ z ∈ x.2, bare z ∈ nms := fun x m => ⟨(nr.at_ x m).1, (srl_off S3 (nr.at_ x m).2).1, nr.row x m, fun z hz => nr.sub x m z hz⟩
    have lrE : (rs.map fun x => V.ref x.1).length = rs.length := List.length_map _
    refine ⟨.ref u, rfl, _, rfl, lr, _, rfl, .inl (SqL.of hlr), u, l, ns, rs.length, by rw [lrE]; rfl, by omega, S6, fun H8 ln nl nln S8 B8 hln lnl asc rng => ?_⟩
    dsimp only [gName]
    have lnu := (srl_off S6 nln).1
    have hlr8 := B8 _ _ lru hlr
    have row8 : ∀ x ∈ rs, H8 x.1 = some (.lst (x.2.map V.str)) := fun x m => B8 _ _ (rsA x m).2.1 (rsA x m).1
    have z1 : (nl.zip rs).map (·.1) = nl := List.map_fst_zip (by omega)
    have z2 : (nl.zip rs).map (·.2) = rs := List.map_snd_zip (by omega)
    have zr : (nl.zip rs).map (fun x => V.ref x.2.1) = rs.map fun x => V.ref x.1 := by
      conv => rhs; rw [← z2]
      rw [List.map_map]
      rfl
    have zl : (nl.zip rs).length = rs.length := by rw [List.length_zip]; omega
    have zm : ∀ x ∈ nl.zip rs, x.2 ∈ rs := fun x m => by
      have z := List.mem_map.mpr ⟨x, m, (rfl : x.2 = x.2)⟩
      rwa [z2] at z
    have zn : ∀ x ∈ nl.zip rs, x.1 ∈ nl := fun x m => by
      have z := List.mem_map.mpr ⟨x, m, (rfl : x.1 = x.1)⟩
      rwa [z1] at z
    refine ⟨.ref ln, rfl, .ref lr, rfl, ln, lr, nl.zip rs, nms, rfl, by rw [z1]; exact hln, by rw [zr]; exact hlr8, fun x m => ⟨row8 _ (zm x m), (rsA _ (zm x m)).2.2.1.mono (by decide)⟩, by omega, by rw [z1]; exact asc, fun x m => by have := rng _ (zn x m); omega, by omega, fun x m z hz => (rsA _ (zm x m)).2.2.2 z hz, fun H9 b dx d es e9 nb nd9 hb hd hcl hes hrd => ?_⟩
    dsimp only [gName]
    have hnum : es.map Rc.n = nl := by
      rw [← z1, ← hes, List.map_map]
      rfl
    have hrow : es.map Rc.row = rs := by
      rw [← z2, ← hes, List.map_map]
      rfl
    have hra : (es.map fun e => V.ref e.ra) = rs.map fun x => V.ref x.1 := by
      rw [← hrow, List.map_map]
      rfl
    have les : es.length = rs.length := by rw [← hrow, List.length_map]
    generalize hlast : lastX (nl.zip rs) = last at hb
    have memr : ∀ e ∈ es, e.row ∈ rs := fun e m => by rw [← hrow]; exact List.mem_map.mpr ⟨e, m, rfl⟩
    have lt : last ≤ 960 ∧ 0 ≤ last := by
      rcases last_mem (xs := nl.zip rs) with z | z
      · rw [hlast] at z; omega
      · rw [hlast, z1] at z
        have := rng _ z
        omega
    have top : ∀ n ∈ nl, n ≤ last := fun n m => by
      have z := last_top (xs := nl.zip rs) (by rw [z1]; exact asc)
      rw [z1, hlast] at z
      exact z n m
    have o : EsOk es last := ⟨by rw [hnum]; exact asc, fun e m => by
      have z : e.n ∈ nl := by rw [← hnum]; exact List.mem_map.mpr ⟨e, m, rfl⟩
      exact ⟨(rng _ z).1, top _ z⟩, hrd, by omega, by have := sum6 hrd; omega, lt.2, by omega⟩
    have w9 : Wld T.C_Clause T.C_Book H9 b dx d ln lr es last nms := ⟨⟨hb, hd, hcl⟩, ⟨by rw [hnum]; exact e9 _ _ hln, by rw [hra]; exact e9 _ _ hlr8, fun e m => e9 _ _ (row8 _ (memr e m))⟩, o, by omega, fun e m z hz => (rsA _ (memr e m)).2.2.2 z hz, ok⟩
    have few : (rowNames (es.map Rc.row)).length ≤ 60 := by rw [hrow]; exact l60
    clear hes hrd hcl zm zn zr z1 z2 zl hlr8 hlr hln row8 rsA asc rng top memr hnum hrow hra S8 S6 B8 hb hd nb nd9 l60 hlast nr B6 S3 B3 h3
    have n8 : nms.length ≤ 8 := by omega
    have f24 := w9.o.few
    -- apart
    refine q_when (b := false) (et_is (et_not (tr_bl (K := K) (ev_ap0 (K := K) (ev_var rfl) (ev_var rfl) (ev_var rfl) w9 n8 few))) rfl) (fun c => by cases c) (fun _ H10 e10 => ?_)
    have w10 := w9.mono e10
    refine q_asgRaw ⟨.ref b, rfl, .ref ln, rfl, .ref lr, rfl, b, dx, d, ln, lr, es, last, nms, rfl, w10, n8, few, fun H11 pt x e11 npt hpt xin => ?_⟩
    dsimp only [gName]
    have w11 := w10.mono e11
    refine q_when (b := false) (et_is (et_not (tr_bl (K := K) (b := true) (ev_op (x := .ref pt) (ev_var rfl) ev_c (rv_ixL (sq_of hpt) (atI_nat (j := 0) (v := V.bl true) rfl))))) rfl) (fun c => by cases c) (fun _ H12 e12 => ?_)
    have w12 := w11.mono e12
    have hpt12 := e12 _ _ hpt
    have rE : ((es.map fun e => V.ref e.ra).length : Int) = (es.length : Int) := by rw [List.length_map]
    refine q_when (b := decide (V.int (es.length : Int) = V.int 0)) (et_test (ev_op (ev_is (ev_len (ev_var rfl) (sq_of w12.t.rows)) (by rw [rE])) ev_c (rv_eq rfl))) (fun c H13 e13 => ?_) (fun c H13 e13 => ?_)
    · exact s_ret ev_c fun H17 e17 => q.2 _
    have pos : 0 < es.length := Nat.pos_of_ne_zero fun e => of_decide_eq_false c (by rw [e]; rfl)
    obtain ⟨k, hk0, ek⟩ := List.mem_iff_getElem.mp (xin pos)
    have hk : k < es.length := by rw [List.length_map] at hk0; exact hk0
    have w13 := w12.mono e13
    refine q_asg (v := .int (k : Int)) (ev_indexI (ev_var rfl) (ev_op (x := .ref pt) (ev_var rfl) ev_c (rv_ixL (sq_of (e13 _ _ hpt12)) (atI_nat (j := 1) (v := V.int x) rfl))) w13.t.num w13.o.nd (by rw [List.getElem?_eq_getElem hk0, ek])) fun H4 e4 => ?_
    have w4 := w13.mono e4
    -- the drop
    refine ⟨_, rfl, b, dx, _, rfl, w4.B.at_, rfl, (ev_op (ev_var rfl) (ev_var rfl) (rv_ixL (sq_of w4.t.num) (atI_nat (j := k) (v := .int es[k].n) (by rw [List.getElem?_map, List.getElem?_map, List.getElem?_eq_getElem hk]; rfl)))) H4 (Ex.refl H4) _ fun H5 e5 => ?_⟩
    have w5 := w4.mono e5
    refine ⟨b, dx, d, es[k].n, es.map Rc.ent, last, rfl, w5.o.txt (List.getElem_mem hk), w5.B, w5.o.keyNd, fun p m => (by
      obtain ⟨f, _, rfl⟩ := List.mem_map.mp m
      exact ⟨f.n, rfl⟩), by rw [List.length_map]; omega, fun p mp eq H6 d6 m1 nd6 m3 m4 => ?_, fun no => absurd (List.mem_map.mpr ⟨es[k].ent, List.mem_map.mpr ⟨es[k], List.getElem_mem hk, rfl⟩, rfl⟩) no⟩
    rw [without_at w5.o.nd hk] at m4
    have off : ∀ {c : Addr} {xs : List V}, H5 c = some (.lst xs) → H6 c = some (.lst xs) := fun {c xs} h => m1 _ _ (fun e => by rw [e, w5.B.at_] at h; cases h) h
    have num6 := off w5.t.num
    have rows6 := off w5.t.rows
    have each6 : ∀ e ∈ es, H6 e.ra = some (.lst (e.R.map V.str)) := fun e m => off (w5.t.each e m)
    have cls6 : ClsAt T.C_Clause H6 (((outI es k).map Rc.ent).map (·.2)) := fun c m => by
      obtain ⟨q1, mq, rfl⟩ := List.mem_map.mp m
      obtain ⟨e, me, rfl⟩ := List.mem_map.mp mq
      exact (w5.B.cls.bookN w5.B.at_ m1) e.ent.2 (List.mem_map.mpr ⟨e.ent, List.mem_map.mpr ⟨e, outI_mem me, rfl⟩, rfl⟩)
    have s1 := el_sl (K := K) (σ := [some (V.ref a), some (.ref u), some (.ref pn), some (.ref lr), some (.ref ln), some (.ref b), some (.ref pt), some (.int (k : Int))]) (H := H6) (te := tVar 3) (ev_var rfl) eo_none (eo_some (te := tVar 7) (i := (k : Int)) (ev_var rfl)) (sq_of rows6)
    have s2 := el_sl (K := K) (σ := [some (V.ref a), some (.ref u), some (.ref pn), some (.ref lr), some (.ref ln), some (.ref b), some (.ref pt), some (.int (k : Int))]) (H := H6) (te := tVar 3) (ev_var rfl) (eo_some (te := tOp (rI0 fun i j => .int (i + j)) (tVar 7) (tC (.int 1))) (i := ((k + 1 : Nat) : Int)) (ev_op (ev_var rfl) ev_c (fun H1 _ Q q => ⟨_, _, rfl, rfl, q H1 (Ex.refl H1)⟩))) eo_none (sq_of rows6)
    rw [cutV_to, ← List.map_take] at s1
    rw [cutV_fr, ← List.map_drop] at s2
    have c1 := el_cat (els_new s1) (els_new s2) (by rw [List.length_map, List.length_map, List.length_take, List.length_drop]; omega)
    rw [← List.map_append] at c1
    refine q_asgL (xs := (outI es k).map fun e => V.ref e.ra) c1 fun lr3 H7 nlr3 e7 hlr3 => ?_
    have num7 := e7 _ _ num6
    have s3 := el_sl (K := K) (σ := [some (V.ref a), some (.ref u), some (.ref pn), some (.ref lr3), some (.ref ln), some (.ref b), some (.ref pt), some (.int (k : Int))]) (H := H7) (te := tVar 4) (ev_var rfl) eo_none (eo_some (te := tVar 7) (i := (k : Int)) (ev_var rfl)) (sq_of num7)
    have s4 := el_sl (K := K) (σ := [some (V.ref a), some (.ref u), some (.ref pn), some (.ref lr3), some (.ref ln), some (.ref b), some (.ref pt), some (.int (k : Int))]) (H := H7) (te := tVar 4) (ev_var rfl) (eo_some (te := tOp (rI0 fun i j => .int (i + j)) (tVar 7) (tC (.int 1))) (i := ((k + 1 : Nat) : Int)) (ev_op (ev_var rfl) ev_c (fun H1 _ Q q => ⟨_, _, rfl, rfl, q H1 (Ex.refl H1)⟩))) eo_none (sq_of num7)
    rw [cutV_to, ← List.map_take, ← List.map_take] at s3
    rw [cutV_fr, ← List.map_drop, ← List.map_drop] at s4
    have c2 := el_cat (els_new s3) (els_new s4) (by rw [List.length_map, List.length_map, List.length_map, List.length_map, List.length_take, List.length_drop]; omega)
    rw [← List.map_append, ← List.map_append] at c2
    refine q_asgL (xs := ((outI es k).map Rc.n).map V.int) c2 fun ln3 H8 nln3 e8 hln3 => ?_
    have e68 := e7.trans e8
    have w8 : Wld T.C_Clause T.C_Book H8 b dx d6 ln3 lr3 (outI es k) last nms := ⟨(show BkAt T.C_Clause T.C_Book H6 b dx d6 ((outI es k).map Rc.ent) last from ⟨m3, m4, cls6⟩).mono e68, ⟨hln3, e8 _ _ hlr3, fun e m => e68 _ _ (each6 e (outI_mem m))⟩, esok_out w5.o k, w9.n12, fun e m => w9.sub e (outI_mem m), w9.nam⟩
    exact s_ret (v := .bl true) (ev_ap0 (K := K) (ev_var rfl) (ev_var rfl) (ev_var rfl) w8 n8 (Nat.le_trans (rn_sub outI_sub) few)) fun Ha ea => q.2 _
end
end
theorem all_mk {l : PySem.W.OpenLaw} {w : World} {K : PySem.W.Frag} {h : Heap} {mg : Str → Option Value} {fa : Addr} (X : K.In h) (G : h.Ns mainGlobals mg) (hfa : mg "law" = some (.ref fa))
    {C_Ring C_Clause C_Book f0 f1 f2 f3 f4 f5 f6 f7 f8 f9 f10 f11 f12 f13 f14 f15 f16 f17 pp17 f18 f19 f20 f21 f22 f23 f24 pp24 f25 f26 f27 f28 f29 f30 f31 f32 f33 f34 f35 f36 sp36 f37 pp37 f38 pp38 f39 f40 f41 f42 f43 f44 f45 f46 f47 f48 f49 f50 f51 f52 f53 f54 f55 f56 f57 f58 f59 f60 f61 f62 f63 f64 f65 f66 f67 f68 f69 f70 f71 f72 C_HornError C_BadName i_BadName cda1 cc1 C_BadLiteral i_BadLiteral cda2 cc2 C_BothSigns i_BothSigns cda3 cc3 C_TooMany i_TooMany cda4 cc4 C_NoClause i_NoClause cda5 cc5 C_BadNumber i_BadNumber cda6 cc6 : Addr} {od0 an0 od1 an1 od2 an2 od3 an3 od4 an4 od5 an5 od6 an6 od7 an7 od8 an8 od9 an9 od10 an10 od11 an11 od12 an12 od13 an13 od14 an14 od15 an15 od16 an16 od17 an17 od18 an18 od19 an19 od20 an20 od21 an21 od22 an22 od23 an23 od24 an24 od25 an25 od26 an26 od27 an27 od28 an28 od29 an29 od30 an30 od31 an31 od32 an32 od33 an33 od34 an34 od35 an35 od36 an36 od37 an37 od38 an38 od39 an39 od40 an40 od41 an41 od42 an42 od43 an43 od44 an44 od45 an45 od46 an46 od47 an47 od48 an48 od49 an49 od50 an50 od51 an51 od52 an52 od53 an53 od54 an54 od55 an55 od56 an56 od57 an57 od58 an58 od59 an59 od60 an60 od61 an61 od62 an62 od63 an63 od64 an64 od65 an65 od66 an66 od67 an67 od68 an68 od69 an69 od70 an70 od71 an71 od72 an72 : Option Addr} {sl0 sl1 sl2 sl3 sl4 sl5 sl6 sl7 sl8 sl9 sl10 sl11 sl12 sl13 sl14 sl15 sl16 sl17 sl18 sl19 sl20 sl21 sl22 sl23 sl24 sl25 sl26 sl27 sl28 sl29 sl30 sl31 sl32 sl33 sl34 sl35 sl36 sl37 sl38 sl39 sl40 sl41 sl42 sl43 sl44 sl45 sl46 sl47 sl48 sl49 sl50 sl51 sl52 sl53 sl54 sl55 sl56 sl57 sl58 sl59 sl60 sl61 sl62 sl63 sl64 sl65 sl66 sl67 sl68 sl69 sl70 sl71 sl72 : Array (Option Value)} {oc0 kV0 dc0 pm0 cd0 ct0 oc1 kV1 dc1 pm1 cd1 ct1 oc2 kV2 dc2 pm2 cd2 ct2 oc3 kV3 dc3 pm3 cd3 ct3 oc4 kV4 dc4 pm4 cd4 ct4 oc5 kV5 dc5 pm5 cd5 ct5 oc6 kV6 dc6 pm6 cd6 ct6 oc7 kV7 dc7 pm7 cd7 ct7 oc8 kV8 dc8 pm8 cd8 ct8 oc9 kV9 dc9 pm9 cd9 ct9 oc10 kV10 dc10 pm10 cd10 ct10 oc11 kV11 dc11 pm11 cd11 ct11 oc12 kV12 dc12 pm12 cd12 ct12 oc13 kV13 dc13 pm13 cd13 ct13 oc14 kV14 dc14 pm14 cd14 ct14 oc15 kV15 dc15 pm15 cd15 ct15 oc16 kV16 dc16 pm16 cd16 ct16 oc17 kV17 dc17 pm17 cd17 ct17 oc18 kV18 dc18 pm18 cd18 ct18 oc19 kV19 dc19 pm19 cd19 ct19 oc20 kV20 dc20 pm20 cd20 ct20 oc21 kV21 dc21 pm21 cd21 ct21 oc22 kV22 dc22 pm22 cd22 ct22 oc23 kV23 dc23 pm23 cd23 ct23 oc24 kV24 dc24 pm24 cd24 ct24 oc25 kV25 dc25 pm25 cd25 ct25 oc26 kV26 dc26 pm26 cd26 ct26 oc27 kV27 dc27 pm27 cd27 ct27 oc28 kV28 dc28 pm28 cd28 ct28 oc29 kV29 dc29 pm29 cd29 ct29 oc30 kV30 dc30 pm30 cd30 ct30 oc31 kV31 dc31 pm31 cd31 ct31 oc32 kV32 dc32 pm32 cd32 ct32 oc33 kV33 dc33 pm33 cd33 ct33 oc34 kV34 dc34 pm34 cd34 ct34 oc35 kV35 dc35 pm35 cd35 ct35 oc36 kV36 dc36 pm36 cd36 ct36 oc37 kV37 dc37 pm37 cd37 ct37 oc38 kV38 dc38 pm38 cd38 ct38 oc39 kV39 dc39 pm39 cd39 ct39 oc40 kV40 dc40 pm40 cd40 ct40 oc41 kV41 dc41 pm41 cd41 ct41 oc42 kV42 dc42 pm42 cd42 ct42 oc43 kV43 dc43 pm43 cd43 ct43 oc44 kV44 dc44 pm44 cd44 ct44 oc45 kV45 dc45 pm45 cd45 ct45 oc46 kV46 dc46 pm46 cd46 ct46 oc47 kV47 dc47 pm47 cd47 ct47 oc48 kV48 dc48 pm48 cd48 ct48 oc49 kV49 dc49 pm49 cd49 ct49 oc50 kV50 dc50 pm50 cd50 ct50 oc51 kV51 dc51 pm51 cd51 ct51 oc52 kV52 dc52 pm52 cd52 ct52 oc53 kV53 dc53 pm53 cd53 ct53 oc54 kV54 dc54 pm54 cd54 ct54 oc55 kV55 dc55 pm55 cd55 ct55 oc56 kV56 dc56 pm56 cd56 ct56 oc57 kV57 dc57 pm57 cd57 ct57 oc58 kV58 dc58 pm58 cd58 ct58 oc59 kV59 dc59 pm59 cd59 ct59 oc60 kV60 dc60 pm60 cd60 ct60 oc61 kV61 dc61 pm61 cd61 ct61 oc62 kV62 dc62 pm62 cd62 ct62 oc63 kV63 dc63 pm63 cd63 ct63 oc64 kV64 dc64 pm64 cd64 ct64 oc65 kV65 dc65 pm65 cd65 ct65 oc66 kV66 dc66 pm66 cd66 ct66 oc67 kV67 dc67 pm67 cd67 ct67 oc68 kV68 dc68 pm68 cd68 ct68 oc69 kV69 dc69 pm69 cd69 ct69 oc70 kV70 dc70 pm70 cd70 ct70 oc71 kV71 dc71 pm71 cd71 ct71 oc72 kV72 dc72 pm72 cd72 ct72 : Value} {tk0 tk1 tk2 cvt_Clause_LIMIT cvt_Book_LIMIT cvt_Book_NAMES cvt_Book_NUMBERS : Tok} {prest17 prest24 srest36 prest37 prest38 : List Value}
    {n_1 q_1 : Str} {N_1 : Addr} {bs_1 bm_1 : List Value} {sn_1 : List Str} {sub_1 : List Value} {ab_1 : Bool} {col_1 : Option Bool} {dd_1 : Option Addr} {w0_1 w1_1 w2_1 w3_1 w5_1 : Option Value} {oce_1 dce_1 pme_1 cte_1 ccl_1 cl_1 : Value} {ode_1 ane_1 cdd_1 cld_1 : Option Addr} {sle_1 ccs_1 csl_1 : Array (Option Value)} {vs_1 : Array Value} {file_1 : Str} {tf_1 : Tok}
    {n_2 q_2 : Str} {N_2 : Addr} {bs_2 bm_2 : List Value} {sn_2 : List Str} {sub_2 : List Value} {ab_2 : Bool} {col_2 : Option Bool} {dd_2 : Option Addr} {w0_2 w1_2 w2_2 w3_2 w5_2 : Option Value} {oce_2 dce_2 pme_2 cte_2 ccl_2 cl_2 : Value} {ode_2 ane_2 cdd_2 cld_2 : Option Addr} {sle_2 ccs_2 csl_2 : Array (Option Value)} {vs_2 : Array Value} {file_2 : Str} {tf_2 : Tok}
    {n_3 q_3 : Str} {N_3 : Addr} {bs_3 bm_3 : List Value} {sn_3 : List Str} {sub_3 : List Value} {ab_3 : Bool} {col_3 : Option Bool} {dd_3 : Option Addr} {w0_3 w1_3 w2_3 w3_3 w5_3 : Option Value} {oce_3 dce_3 pme_3 cte_3 ccl_3 cl_3 : Value} {ode_3 ane_3 cdd_3 cld_3 : Option Addr} {sle_3 ccs_3 csl_3 : Array (Option Value)} {vs_3 : Array Value} {file_3 : Str} {tf_3 : Tok}
    {n_4 q_4 : Str} {N_4 : Addr} {bs_4 bm_4 : List Value} {sn_4 : List Str} {sub_4 : List Value} {ab_4 : Bool} {col_4 : Option Bool} {dd_4 : Option Addr} {w0_4 w1_4 w2_4 w3_4 w5_4 : Option Value} {oce_4 dce_4 pme_4 cte_4 ccl_4 cl_4 : Value} {ode_4 ane_4 cdd_4 cld_4 : Option Addr} {sle_4 ccs_4 csl_4 : Array (Option Value)} {vs_4 : Array Value} {file_4 : Str} {tf_4 : Tok}
    {n_5 q_5 : Str} {N_5 : Addr} {bs_5 bm_5 : List Value} {sn_5 : List Str} {sub_5 : List Value} {ab_5 : Bool} {col_5 : Option Bool} {dd_5 : Option Addr} {w0_5 w1_5 w2_5 w3_5 w5_5 : Option Value} {oce_5 dce_5 pme_5 cte_5 ccl_5 cl_5 : Value} {ode_5 ane_5 cdd_5 cld_5 : Option Addr} {sle_5 ccs_5 csl_5 : Array (Option Value)} {vs_5 : Array Value} {file_5 : Str} {tf_5 : Tok}
    {n_6 q_6 : Str} {N_6 : Addr} {bs_6 bm_6 : List Value} {sn_6 : List Str} {sub_6 : List Value} {ab_6 : Bool} {col_6 : Option Bool} {dd_6 : Option Addr} {w0_6 w1_6 w2_6 w3_6 w5_6 : Option Value} {oce_6 dce_6 pme_6 cte_6 ccl_6 cl_6 : Value} {ode_6 ane_6 cdd_6 cld_6 : Option Addr} {sle_6 ccs_6 csl_6 : Array (Option Value)} {vs_6 : Array Value} {file_6 : Str} {tf_6 : Tok}
    (cg0 : PySem.W.nsIn K mainGlobals "Ring" = some (some (.ref C_Ring)))
    (cpg0 : PySem.W.plainGet K C_Ring Str.empty = true)
    (chd0 : PySem.W.hasDictIn K C_Ring = true)
    (cpo0 : PySem.W.plainOver K C_Ring = true)
    (csa0 : PySem.W.findIn K (.ref C_Ring) "__setattr__" = some (some (.builtin "object.__setattr__")))
    (cmi0 : PySem.W.makesIn K C_Ring = true)
    (ckc0 : PySem.W.keepIn K (.ref C_Ring) = true)
    (cha0 : PySem.W.findIn K (.ref C_Ring) "__class__" = some (some (.builtin "object.__class__")))
    (cmo0 : PySem.W.mroIn K C_Ring (.type "object") = some true)
    (cme0 : PySem.W.kitOne K (.ref C_Ring) (.ref C_Ring) = some true)
    (cna0_0 : PySem.W.findIn K (.ref C_Ring) "name" = some none)
    (cna0_1 : PySem.W.findIn K (.ref C_Ring) "there" = some none)
    (cna0_2 : PySem.W.findIn K (.ref C_Ring) "back" = some none)
    (cg1 : PySem.W.nsIn K mainGlobals "Clause" = some (some (.ref C_Clause)))
    (cpg1 : PySem.W.plainGet K C_Clause Str.empty = true)
    (chd1 : PySem.W.hasDictIn K C_Clause = true)
    (cpo1 : PySem.W.plainOver K C_Clause = true)
    (csa1 : PySem.W.findIn K (.ref C_Clause) "__setattr__" = some (some (.builtin "object.__setattr__")))
    (cmi1 : PySem.W.makesIn K C_Clause = true)
    (ckc1 : PySem.W.keepIn K (.ref C_Clause) = true)
    (cha1 : PySem.W.findIn K (.ref C_Clause) "__class__" = some (some (.builtin "object.__class__")))
    (cmo1 : PySem.W.mroIn K C_Clause (.type "object") = some true)
    (cme1 : PySem.W.kitOne K (.ref C_Clause) (.ref C_Clause) = some true)
    (cna1_0 : PySem.W.findIn K (.ref C_Clause) "literals" = some none)
    (cg2 : PySem.W.nsIn K mainGlobals "Book" = some (some (.ref C_Book)))
    (cpg2 : PySem.W.plainGet K C_Book Str.empty = true)
    (chd2 : PySem.W.hasDictIn K C_Book = true)
    (cpo2 : PySem.W.plainOver K C_Book = true)
    (csa2 : PySem.W.findIn K (.ref C_Book) "__setattr__" = some (some (.builtin "object.__setattr__")))
    (cmi2 : PySem.W.makesIn K C_Book = true)
    (ckc2 : PySem.W.keepIn K (.ref C_Book) = true)
    (cha2 : PySem.W.findIn K (.ref C_Book) "__class__" = some (some (.builtin "object.__class__")))
    (cmo2 : PySem.W.mroIn K C_Book (.type "object") = some true)
    (cme2 : PySem.W.kitOne K (.ref C_Book) (.ref C_Book) = some true)
    (cna2_0 : PySem.W.findIn K (.ref C_Book) "_placed" = some none)
    (cna2_1 : PySem.W.findIn K (.ref C_Book) "_last" = some none)
    (om_Book : mro2 K C_Book = true)
    (cvr_Clause : PySem.W.readsIn K C_Clause (.type "type") = true)
    (cvg_Clause : PySem.W.specialIn K (.ref C_Clause) "__getattribute__" = some (some (.builtin "type.__getattribute__")))
    (cvf_Clause_LIMIT : PySem.W.findCls K (.ref C_Clause) (.type "type") "LIMIT" = some (.val (.int 6 cvt_Clause_LIMIT)))
    (cvr_Book : PySem.W.readsIn K C_Book (.type "type") = true)
    (cvg_Book : PySem.W.specialIn K (.ref C_Book) "__getattribute__" = some (some (.builtin "type.__getattribute__")))
    (cvf_Book_LIMIT : PySem.W.findCls K (.ref C_Book) (.type "type") "LIMIT" = some (.val (.int 24 cvt_Book_LIMIT)))
    (cvf_Book_NAMES : PySem.W.findCls K (.ref C_Book) (.type "type") "NAMES" = some (.val (.int 12 cvt_Book_NAMES)))
    (cvf_Book_NUMBERS : PySem.W.findCls K (.ref C_Book) (.type "type") "NUMBERS" = some (.val (.int 999 cvt_Book_NUMBERS)))
    (a0 : PySem.W.nsIn K mainGlobals "is_name" = some (some (.ref f0)))
    (l0 : K.lookup f0 = some ⟨oc0, od0, .func (PySem.W.fnOf "is_name" "is_name" (defArgs s_is_name) (defBody s_is_name) (defScope s_is_name) .none kV0 dc0 pm0 an0 cd0 ct0), sl0⟩)
    (c0 : PySem.W.codeIn K cd0 "is_name" = true)
    (k0 : PySem.W.keepIn K (.ref f0) = true)
    (a1 : PySem.W.nsIn K mainGlobals "is_literal" = some (some (.ref f1)))
    (l1 : K.lookup f1 = some ⟨oc1, od1, .func (PySem.W.fnOf "is_literal" "is_literal" (defArgs s_is_literal) (defBody s_is_literal) (defScope s_is_literal) .none kV1 dc1 pm1 an1 cd1 ct1), sl1⟩)
    (c1 : PySem.W.codeIn K cd1 "is_literal" = true)
    (k1 : PySem.W.keepIn K (.ref f1) = true)
    (a2 : PySem.W.nsIn K mainGlobals "check_name" = some (some (.ref f2)))
    (l2 : K.lookup f2 = some ⟨oc2, od2, .func (PySem.W.fnOf "check_name" "check_name" (defArgs s_check_name) (defBody s_check_name) (defScope s_check_name) .none kV2 dc2 pm2 an2 cd2 ct2), sl2⟩)
    (c2 : PySem.W.codeIn K cd2 "check_name" = true)
    (k2 : PySem.W.keepIn K (.ref f2) = true)
    (a3 : PySem.W.nsIn K mainGlobals "check_literal" = some (some (.ref f3)))
    (l3 : K.lookup f3 = some ⟨oc3, od3, .func (PySem.W.fnOf "check_literal" "check_literal" (defArgs s_check_literal) (defBody s_check_literal) (defScope s_check_literal) .none kV3 dc3 pm3 an3 cd3 ct3), sl3⟩)
    (c3 : PySem.W.codeIn K cd3 "check_literal" = true)
    (k3 : PySem.W.keepIn K (.ref f3) = true)
    (a4 : PySem.W.nsIn K mainGlobals "name_of" = some (some (.ref f4)))
    (l4 : K.lookup f4 = some ⟨oc4, od4, .func (PySem.W.fnOf "name_of" "name_of" (defArgs s_name_of) (defBody s_name_of) (defScope s_name_of) .none kV4 dc4 pm4 an4 cd4 ct4), sl4⟩)
    (c4 : PySem.W.codeIn K cd4 "name_of" = true)
    (k4 : PySem.W.keepIn K (.ref f4) = true)
    (a5 : PySem.W.nsIn K mainGlobals "is_positive" = some (some (.ref f5)))
    (l5 : K.lookup f5 = some ⟨oc5, od5, .func (PySem.W.fnOf "is_positive" "is_positive" (defArgs s_is_positive) (defBody s_is_positive) (defScope s_is_positive) .none kV5 dc5 pm5 an5 cd5 ct5), sl5⟩)
    (c5 : PySem.W.codeIn K cd5 "is_positive" = true)
    (k5 : PySem.W.keepIn K (.ref f5) = true)
    (a6 : PySem.W.nsIn K mainGlobals "negated" = some (some (.ref f6)))
    (l6 : K.lookup f6 = some ⟨oc6, od6, .func (PySem.W.fnOf "negated" "negated" (defArgs s_negated) (defBody s_negated) (defScope s_negated) .none kV6 dc6 pm6 an6 cd6 ct6), sl6⟩)
    (c6 : PySem.W.codeIn K cd6 "negated" = true)
    (k6 : PySem.W.keepIn K (.ref f6) = true)
    (a7 : PySem.W.nsIn K mainGlobals "both_signs" = some (some (.ref f7)))
    (l7 : K.lookup f7 = some ⟨oc7, od7, .func (PySem.W.fnOf "both_signs" "both_signs" (defArgs s_both_signs) (defBody s_both_signs) (defScope s_both_signs) .none kV7 dc7 pm7 an7 cd7 ct7), sl7⟩)
    (c7 : PySem.W.codeIn K cd7 "both_signs" = true)
    (k7 : PySem.W.keepIn K (.ref f7) = true)
    (a8 : PySem.W.nsIn K mainGlobals "in_order" = some (some (.ref f8)))
    (l8 : K.lookup f8 = some ⟨oc8, od8, .func (PySem.W.fnOf "in_order" "in_order" (defArgs s_in_order) (defBody s_in_order) (defScope s_in_order) .none kV8 dc8 pm8 an8 cd8 ct8), sl8⟩)
    (c8 : PySem.W.codeIn K cd8 "in_order" = true)
    (k8 : PySem.W.keepIn K (.ref f8) = true)
    (a9 : PySem.W.nsIn K mainGlobals "check_signs" = some (some (.ref f9)))
    (l9 : K.lookup f9 = some ⟨oc9, od9, .func (PySem.W.fnOf "check_signs" "check_signs" (defArgs s_check_signs) (defBody s_check_signs) (defScope s_check_signs) .none kV9 dc9 pm9 an9 cd9 ct9), sl9⟩)
    (c9 : PySem.W.codeIn K cd9 "check_signs" = true)
    (k9 : PySem.W.keepIn K (.ref f9) = true)
    (a10 : PySem.W.nsIn K mainGlobals "needs" = some (some (.ref f10)))
    (l10 : K.lookup f10 = some ⟨oc10, od10, .func (PySem.W.fnOf "needs" "needs" (defArgs s_needs) (defBody s_needs) (defScope s_needs) .none kV10 dc10 pm10 an10 cd10 ct10), sl10⟩)
    (c10 : PySem.W.codeIn K cd10 "needs" = true)
    (k10 : PySem.W.keepIn K (.ref f10) = true)
    (a11 : PySem.W.nsIn K mainGlobals "all_needs" = some (some (.ref f11)))
    (l11 : K.lookup f11 = some ⟨oc11, od11, .func (PySem.W.fnOf "all_needs" "all_needs" (defArgs s_all_needs) (defBody s_all_needs) (defScope s_all_needs) .none kV11 dc11 pm11 an11 cd11 ct11), sl11⟩)
    (c11 : PySem.W.codeIn K cd11 "all_needs" = true)
    (k11 : PySem.W.keepIn K (.ref f11) = true)
    (a12 : PySem.W.nsIn K mainGlobals "_arrivals" = some (some (.ref f12)))
    (l12 : K.lookup f12 = some ⟨oc12, od12, .func (PySem.W.fnOf "_arrivals" "_arrivals" (defArgs s__arrivals) (defBody s__arrivals) (defScope s__arrivals) .none kV12 dc12 pm12 an12 cd12 ct12), sl12⟩)
    (c12 : PySem.W.codeIn K cd12 "_arrivals" = true)
    (k12 : PySem.W.keepIn K (.ref f12) = true)
    (a13 : PySem.W.nsIn K mainGlobals "all_reached" = some (some (.ref f13)))
    (l13 : K.lookup f13 = some ⟨oc13, od13, .func (PySem.W.fnOf "all_reached" "all_reached" (defArgs s_all_reached) (defBody s_all_reached) (defScope s_all_reached) .none kV13 dc13 pm13 an13 cd13 ct13), sl13⟩)
    (c13 : PySem.W.codeIn K cd13 "all_reached" = true)
    (k13 : PySem.W.keepIn K (.ref f13) = true)
    (a14 : PySem.W.nsIn K mainGlobals "chain" = some (some (.ref f14)))
    (l14 : K.lookup f14 = some ⟨oc14, od14, .func (PySem.W.fnOf "chain" "chain" (defArgs s_chain) (defBody s_chain) (defScope s_chain) .none kV14 dc14 pm14 an14 cd14 ct14), sl14⟩)
    (c14 : PySem.W.codeIn K cd14 "chain" = true)
    (k14 : PySem.W.keepIn K (.ref f14) = true)
    (a15 : PySem.W.nsIn K mainGlobals "is_chain" = some (some (.ref f15)))
    (l15 : K.lookup f15 = some ⟨oc15, od15, .func (PySem.W.fnOf "is_chain" "is_chain" (defArgs s_is_chain) (defBody s_is_chain) (defScope s_is_chain) .none kV15 dc15 pm15 an15 cd15 ct15), sl15⟩)
    (c15 : PySem.W.codeIn K cd15 "is_chain" = true)
    (k15 : PySem.W.keepIn K (.ref f15) = true)
    (a16 : PySem.W.findIn K (.ref C_Ring) "__init__" = some (some (.ref f16)))
    (l16 : K.lookup f16 = some ⟨oc16, od16, .func (PySem.W.fnOf "__init__" "Ring.__init__" (defArgs s_Ring_init) (defBody s_Ring_init) (defScope s_Ring_init) .none kV16 dc16 pm16 an16 cd16 ct16), sl16⟩)
    (if16 : PySem.W.isFn K (.ref f16) = true)
    (c16 : PySem.W.codeIn K cd16 "Ring.__init__" = true)
    (k16 : PySem.W.keepIn K (.ref f16) = true)
    (a17 : PySem.W.findIn K (.ref C_Ring) "numbers" = some (some (.ref pp17)))
    (pr17 : PySem.W.recIn K pp17 "property" = some (.ref f17 :: prest17))
    (pg17 : PySem.W.specialIn K (.ref pp17) "__get__" = some (some (.builtin "property.__get__")))
    (pt17 : PySem.W.takesIn K (.ref pp17) = some true)
    (l17 : K.lookup f17 = some ⟨oc17, od17, .func (PySem.W.fnOf "numbers" "Ring.numbers" (defArgs s_Ring_numbers) (defBody s_Ring_numbers) (defScope s_Ring_numbers) .none kV17 dc17 pm17 an17 cd17 ct17), sl17⟩)
    (c17 : PySem.W.codeIn K cd17 "Ring.numbers" = true)
    (k17 : PySem.W.keepIn K (.ref f17) = true)
    (a18 : PySem.W.findIn K (.ref C_Ring) "bars" = some (some (.ref f18)))
    (l18 : K.lookup f18 = some ⟨oc18, od18, .func (PySem.W.fnOf "bars" "Ring.bars" (defArgs s_Ring_bars) (defBody s_Ring_bars) (defScope s_Ring_bars) .none kV18 dc18 pm18 an18 cd18 ct18), sl18⟩)
    (if18 : PySem.W.isFn K (.ref f18) = true)
    (c18 : PySem.W.codeIn K cd18 "Ring.bars" = true)
    (k18 : PySem.W.keepIn K (.ref f18) = true)
    (a19 : PySem.W.nsIn K mainGlobals "ring_names" = some (some (.ref f19)))
    (l19 : K.lookup f19 = some ⟨oc19, od19, .func (PySem.W.fnOf "ring_names" "ring_names" (defArgs s_ring_names) (defBody s_ring_names) (defScope s_ring_names) .none kV19 dc19 pm19 an19 cd19 ct19), sl19⟩)
    (c19 : PySem.W.codeIn K cd19 "ring_names" = true)
    (k19 : PySem.W.keepIn K (.ref f19) = true)
    (a20 : PySem.W.nsIn K mainGlobals "ring_at" = some (some (.ref f20)))
    (l20 : K.lookup f20 = some ⟨oc20, od20, .func (PySem.W.fnOf "ring_at" "ring_at" (defArgs s_ring_at) (defBody s_ring_at) (defScope s_ring_at) .none kV20 dc20 pm20 an20 cd20 ct20), sl20⟩)
    (c20 : PySem.W.codeIn K cd20 "ring_at" = true)
    (k20 : PySem.W.keepIn K (.ref f20) = true)
    (a21 : PySem.W.nsIn K mainGlobals "first_ring" = some (some (.ref f21)))
    (l21 : K.lookup f21 = some ⟨oc21, od21, .func (PySem.W.fnOf "first_ring" "first_ring" (defArgs s_first_ring) (defBody s_first_ring) (defScope s_first_ring) .none kV21 dc21 pm21 an21 cd21 ct21), sl21⟩)
    (c21 : PySem.W.codeIn K cd21 "first_ring" = true)
    (k21 : PySem.W.keepIn K (.ref f21) = true)
    (a22 : PySem.W.nsIn K mainGlobals "apart_rings" = some (some (.ref f22)))
    (l22 : K.lookup f22 = some ⟨oc22, od22, .func (PySem.W.fnOf "apart_rings" "apart_rings" (defArgs s_apart_rings) (defBody s_apart_rings) (defScope s_apart_rings) .none kV22 dc22 pm22 an22 cd22 ct22), sl22⟩)
    (c22 : PySem.W.codeIn K cd22 "apart_rings" = true)
    (k22 : PySem.W.keepIn K (.ref f22) = true)
    (a23 : PySem.W.findIn K (.ref C_Clause) "__init__" = some (some (.ref f23)))
    (l23 : K.lookup f23 = some ⟨oc23, od23, .func (PySem.W.fnOf "__init__" "Clause.__init__" (defArgs s_Clause_init) (defBody s_Clause_init) (defScope s_Clause_init) .none kV23 dc23 pm23 an23 cd23 ct23), sl23⟩)
    (if23 : PySem.W.isFn K (.ref f23) = true)
    (c23 : PySem.W.codeIn K cd23 "Clause.__init__" = true)
    (k23 : PySem.W.keepIn K (.ref f23) = true)
    (a24 : PySem.W.findIn K (.ref C_Clause) "names" = some (some (.ref pp24)))
    (pr24 : PySem.W.recIn K pp24 "property" = some (.ref f24 :: prest24))
    (pg24 : PySem.W.specialIn K (.ref pp24) "__get__" = some (some (.builtin "property.__get__")))
    (pt24 : PySem.W.takesIn K (.ref pp24) = some true)
    (l24 : K.lookup f24 = some ⟨oc24, od24, .func (PySem.W.fnOf "names" "Clause.names" (defArgs s_Clause_names) (defBody s_Clause_names) (defScope s_Clause_names) .none kV24 dc24 pm24 an24 cd24 ct24), sl24⟩)
    (c24 : PySem.W.codeIn K cd24 "Clause.names" = true)
    (k24 : PySem.W.keepIn K (.ref f24) = true)
    (a25 : PySem.W.findIn K (.ref C_Clause) "__iter__" = some (some (.ref f25)))
    (l25 : K.lookup f25 = some ⟨oc25, od25, .func (PySem.W.fnOf "__iter__" "Clause.__iter__" (defArgs s_Clause_iter) (defBody s_Clause_iter) (defScope s_Clause_iter) .none kV25 dc25 pm25 an25 cd25 ct25), sl25⟩)
    (if25 : PySem.W.isFn K (.ref f25) = true)
    (c25 : PySem.W.codeIn K cd25 "Clause.__iter__" = true)
    (k25 : PySem.W.keepIn K (.ref f25) = true)
    (a26 : PySem.W.findIn K (.ref C_Clause) "__contains__" = some (some (.ref f26)))
    (l26 : K.lookup f26 = some ⟨oc26, od26, .func (PySem.W.fnOf "__contains__" "Clause.__contains__" (defArgs s_Clause_contains) (defBody s_Clause_contains) (defScope s_Clause_contains) .none kV26 dc26 pm26 an26 cd26 ct26), sl26⟩)
    (if26 : PySem.W.isFn K (.ref f26) = true)
    (c26 : PySem.W.codeIn K cd26 "Clause.__contains__" = true)
    (k26 : PySem.W.keepIn K (.ref f26) = true)
    (a27 : PySem.W.nsIn K mainGlobals "turned_literal" = some (some (.ref f27)))
    (l27 : K.lookup f27 = some ⟨oc27, od27, .func (PySem.W.fnOf "turned_literal" "turned_literal" (defArgs s_turned_literal) (defBody s_turned_literal) (defScope s_turned_literal) .none kV27 dc27 pm27 an27 cd27 ct27), sl27⟩)
    (c27 : PySem.W.codeIn K cd27 "turned_literal" = true)
    (k27 : PySem.W.keepIn K (.ref f27) = true)
    (a28 : PySem.W.nsIn K mainGlobals "turned_clause" = some (some (.ref f28)))
    (l28 : K.lookup f28 = some ⟨oc28, od28, .func (PySem.W.fnOf "turned_clause" "turned_clause" (defArgs s_turned_clause) (defBody s_turned_clause) (defScope s_turned_clause) .none kV28 dc28 pm28 an28 cd28 ct28), sl28⟩)
    (c28 : PySem.W.codeIn K cd28 "turned_clause" = true)
    (k28 : PySem.W.keepIn K (.ref f28) = true)
    (a29 : PySem.W.nsIn K mainGlobals "_names_in" = some (some (.ref f29)))
    (l29 : K.lookup f29 = some ⟨oc29, od29, .func (PySem.W.fnOf "_names_in" "_names_in" (defArgs s__names_in) (defBody s__names_in) (defScope s__names_in) .none kV29 dc29 pm29 an29 cd29 ct29), sl29⟩)
    (c29 : PySem.W.codeIn K cd29 "_names_in" = true)
    (k29 : PySem.W.keepIn K (.ref f29) = true)
    (a30 : PySem.W.nsIn K mainGlobals "_check_names" = some (some (.ref f30)))
    (l30 : K.lookup f30 = some ⟨oc30, od30, .func (PySem.W.fnOf "_check_names" "_check_names" (defArgs s__check_names) (defBody s__check_names) (defScope s__check_names) .none kV30 dc30 pm30 an30 cd30 ct30), sl30⟩)
    (c30 : PySem.W.codeIn K cd30 "_check_names" = true)
    (k30 : PySem.W.keepIn K (.ref f30) = true)
    (a31 : PySem.W.nsIn K mainGlobals "_check_room" = some (some (.ref f31)))
    (l31 : K.lookup f31 = some ⟨oc31, od31, .func (PySem.W.fnOf "_check_room" "_check_room" (defArgs s__check_room) (defBody s__check_room) (defScope s__check_room) .none kV31 dc31 pm31 an31 cd31 ct31), sl31⟩)
    (c31 : PySem.W.codeIn K cd31 "_check_room" = true)
    (k31 : PySem.W.keepIn K (.ref f31) = true)
    (a32 : PySem.W.nsIn K mainGlobals "_placed_from_one" = some (some (.ref f32)))
    (l32 : K.lookup f32 = some ⟨oc32, od32, .func (PySem.W.fnOf "_placed_from_one" "_placed_from_one" (defArgs s__placed_from_one) (defBody s__placed_from_one) (defScope s__placed_from_one) .none kV32 dc32 pm32 an32 cd32 ct32), sl32⟩)
    (c32 : PySem.W.codeIn K cd32 "_placed_from_one" = true)
    (k32 : PySem.W.keepIn K (.ref f32) = true)
    (a33 : PySem.W.nsIn K mainGlobals "_all_turned" = some (some (.ref f33)))
    (l33 : K.lookup f33 = some ⟨oc33, od33, .func (PySem.W.fnOf "_all_turned" "_all_turned" (defArgs s__all_turned) (defBody s__all_turned) (defScope s__all_turned) .none kV33 dc33 pm33 an33 cd33 ct33), sl33⟩)
    (c33 : PySem.W.codeIn K cd33 "_all_turned" = true)
    (k33 : PySem.W.keepIn K (.ref f33) = true)
    (a34 : PySem.W.nsIn K mainGlobals "book_of" = some (some (.ref f34)))
    (l34 : K.lookup f34 = some ⟨oc34, od34, .func (PySem.W.fnOf "book_of" "book_of" (defArgs s_book_of) (defBody s_book_of) (defScope s_book_of) .none kV34 dc34 pm34 an34 cd34 ct34), sl34⟩)
    (c34 : PySem.W.codeIn K cd34 "book_of" = true)
    (k34 : PySem.W.keepIn K (.ref f34) = true)
    (a35 : PySem.W.findIn K (.ref C_Book) "__init__" = some (some (.ref f35)))
    (l35 : K.lookup f35 = some ⟨oc35, od35, .func (PySem.W.fnOf "__init__" "Book.__init__" (defArgs s_Book_init) (defBody s_Book_init) (defScope s_Book_init) .none kV35 dc35 pm35 an35 cd35 ct35), sl35⟩)
    (if35 : PySem.W.isFn K (.ref f35) = true)
    (c35 : PySem.W.codeIn K cd35 "Book.__init__" = true)
    (k35 : PySem.W.keepIn K (.ref f35) = true)
    (a36 : PySem.W.findIn K (.ref C_Book) "numbered" = some (some (.ref sp36)))
    (sr36 : PySem.W.recIn K sp36 "classmethod" = some (.ref f36 :: srest36))
    (sf36 : PySem.W.findCls K (.ref C_Book) (.type "type") "numbered" = some (.get (.builtin "classmethod.__get__") (.ref sp36) .none (.ref C_Book)))
    (l36 : K.lookup f36 = some ⟨oc36, od36, .func (PySem.W.fnOf "numbered" "Book.numbered" (defArgs s_Book_numbered) (defBody s_Book_numbered) (defScope s_Book_numbered) .none kV36 dc36 pm36 an36 cd36 ct36), sl36⟩)
    (sk36 : PySem.W.fnIn K f36 = true)
    (c36 : PySem.W.codeIn K cd36 "Book.numbered" = true)
    (k36 : PySem.W.keepIn K (.ref f36) = true)
    (a37 : PySem.W.findIn K (.ref C_Book) "names" = some (some (.ref pp37)))
    (pr37 : PySem.W.recIn K pp37 "property" = some (.ref f37 :: prest37))
    (pg37 : PySem.W.specialIn K (.ref pp37) "__get__" = some (some (.builtin "property.__get__")))
    (pt37 : PySem.W.takesIn K (.ref pp37) = some true)
    (l37 : K.lookup f37 = some ⟨oc37, od37, .func (PySem.W.fnOf "names" "Book.names" (defArgs s_Book_names) (defBody s_Book_names) (defScope s_Book_names) .none kV37 dc37 pm37 an37 cd37 ct37), sl37⟩)
    (c37 : PySem.W.codeIn K cd37 "Book.names" = true)
    (k37 : PySem.W.keepIn K (.ref f37) = true)
    (a38 : PySem.W.findIn K (.ref C_Book) "next_number" = some (some (.ref pp38)))
    (pr38 : PySem.W.recIn K pp38 "property" = some (.ref f38 :: prest38))
    (pg38 : PySem.W.specialIn K (.ref pp38) "__get__" = some (some (.builtin "property.__get__")))
    (pt38 : PySem.W.takesIn K (.ref pp38) = some true)
    (l38 : K.lookup f38 = some ⟨oc38, od38, .func (PySem.W.fnOf "next_number" "Book.next_number" (defArgs s_Book_next_number) (defBody s_Book_next_number) (defScope s_Book_next_number) .none kV38 dc38 pm38 an38 cd38 ct38), sl38⟩)
    (c38 : PySem.W.codeIn K cd38 "Book.next_number" = true)
    (k38 : PySem.W.keepIn K (.ref f38) = true)
    (a39 : PySem.W.findIn K (.ref C_Book) "put" = some (some (.ref f39)))
    (l39 : K.lookup f39 = some ⟨oc39, od39, .func (PySem.W.fnOf "put" "Book.put" (defArgs s_Book_put) (defBody s_Book_put) (defScope s_Book_put) .none kV39 dc39 pm39 an39 cd39 ct39), sl39⟩)
    (if39 : PySem.W.isFn K (.ref f39) = true)
    (c39 : PySem.W.codeIn K cd39 "Book.put" = true)
    (k39 : PySem.W.keepIn K (.ref f39) = true)
    (a40 : PySem.W.findIn K (.ref C_Book) "drop" = some (some (.ref f40)))
    (l40 : K.lookup f40 = some ⟨oc40, od40, .func (PySem.W.fnOf "drop" "Book.drop" (defArgs s_Book_drop) (defBody s_Book_drop) (defScope s_Book_drop) .none kV40 dc40 pm40 an40 cd40 ct40), sl40⟩)
    (if40 : PySem.W.isFn K (.ref f40) = true)
    (c40 : PySem.W.codeIn K cd40 "Book.drop" = true)
    (k40 : PySem.W.keepIn K (.ref f40) = true)
    (a41 : PySem.W.findIn K (.ref C_Book) "copy" = some (some (.ref f41)))
    (l41 : K.lookup f41 = some ⟨oc41, od41, .func (PySem.W.fnOf "copy" "Book.copy" (defArgs s_Book_copy) (defBody s_Book_copy) (defScope s_Book_copy) .none kV41 dc41 pm41 an41 cd41 ct41), sl41⟩)
    (if41 : PySem.W.isFn K (.ref f41) = true)
    (c41 : PySem.W.codeIn K cd41 "Book.copy" = true)
    (k41 : PySem.W.keepIn K (.ref f41) = true)
    (a42 : PySem.W.findIn K (.ref C_Book) "__iter__" = some (some (.ref f42)))
    (l42 : K.lookup f42 = some ⟨oc42, od42, .func (PySem.W.fnOf "__iter__" "Book.__iter__" (defArgs s_Book_iter) (defBody s_Book_iter) (defScope s_Book_iter) .none kV42 dc42 pm42 an42 cd42 ct42), sl42⟩)
    (if42 : PySem.W.isFn K (.ref f42) = true)
    (c42 : PySem.W.codeIn K cd42 "Book.__iter__" = true)
    (k42 : PySem.W.keepIn K (.ref f42) = true)
    (a43 : PySem.W.findIn K (.ref C_Book) "__len__" = some (some (.ref f43)))
    (l43 : K.lookup f43 = some ⟨oc43, od43, .func (PySem.W.fnOf "__len__" "Book.__len__" (defArgs s_Book_len) (defBody s_Book_len) (defScope s_Book_len) .none kV43 dc43 pm43 an43 cd43 ct43), sl43⟩)
    (if43 : PySem.W.isFn K (.ref f43) = true)
    (c43 : PySem.W.codeIn K cd43 "Book.__len__" = true)
    (k43 : PySem.W.keepIn K (.ref f43) = true)
    (a44 : PySem.W.findIn K (.ref C_Book) "__contains__" = some (some (.ref f44)))
    (l44 : K.lookup f44 = some ⟨oc44, od44, .func (PySem.W.fnOf "__contains__" "Book.__contains__" (defArgs s_Book_contains) (defBody s_Book_contains) (defScope s_Book_contains) .none kV44 dc44 pm44 an44 cd44 ct44), sl44⟩)
    (if44 : PySem.W.isFn K (.ref f44) = true)
    (c44 : PySem.W.codeIn K cd44 "Book.__contains__" = true)
    (k44 : PySem.W.keepIn K (.ref f44) = true)
    (a45 : PySem.W.findIn K (.ref C_Book) "__getitem__" = some (some (.ref f45)))
    (l45 : K.lookup f45 = some ⟨oc45, od45, .func (PySem.W.fnOf "__getitem__" "Book.__getitem__" (defArgs s_Book_getitem) (defBody s_Book_getitem) (defScope s_Book_getitem) .none kV45 dc45 pm45 an45 cd45 ct45), sl45⟩)
    (if45 : PySem.W.isFn K (.ref f45) = true)
    (c45 : PySem.W.codeIn K cd45 "Book.__getitem__" = true)
    (k45 : PySem.W.keepIn K (.ref f45) = true)
    (a46 : PySem.W.findIn K (.ref C_Book) "__setitem__" = some (some (.ref f46)))
    (l46 : K.lookup f46 = some ⟨oc46, od46, .func (PySem.W.fnOf "__setitem__" "Book.__setitem__" (defArgs s_Book_setitem) (defBody s_Book_setitem) (defScope s_Book_setitem) .none kV46 dc46 pm46 an46 cd46 ct46), sl46⟩)
    (if46 : PySem.W.isFn K (.ref f46) = true)
    (c46 : PySem.W.codeIn K cd46 "Book.__setitem__" = true)
    (k46 : PySem.W.keepIn K (.ref f46) = true)
    (a47 : PySem.W.nsIn K mainGlobals "_law_source" = some (some (.ref f47)))
    (l47 : K.lookup f47 = some ⟨oc47, od47, .func (PySem.W.fnOf "_law_source" "_law_source" (defArgs s__law_source) (defBody s__law_source) (defScope s__law_source) .none kV47 dc47 pm47 an47 cd47 ct47), sl47⟩)
    (c47 : PySem.W.codeIn K cd47 "_law_source" = true)
    (k47 : PySem.W.keepIn K (.ref f47) = true)
    (a48 : PySem.W.nsIn K mainGlobals "_law_take" = some (some (.ref f48)))
    (l48 : K.lookup f48 = some ⟨oc48, od48, .func (PySem.W.fnOf "_law_take" "_law_take" (defArgs s__law_take) (defBody s__law_take) (defScope s__law_take) .none kV48 dc48 pm48 an48 cd48 ct48), sl48⟩)
    (c48 : PySem.W.codeIn K cd48 "_law_take" = true)
    (k48 : PySem.W.keepIn K (.ref f48) = true)
    (a49 : PySem.W.nsIn K mainGlobals "_law_word" = some (some (.ref f49)))
    (l49 : K.lookup f49 = some ⟨oc49, od49, .func (PySem.W.fnOf "_law_word" "_law_word" (defArgs s__law_word) (defBody s__law_word) (defScope s__law_word) .none kV49 dc49 pm49 an49 cd49 ct49), sl49⟩)
    (c49 : PySem.W.codeIn K cd49 "_law_word" = true)
    (k49 : PySem.W.keepIn K (.ref f49) = true)
    (a50 : PySem.W.nsIn K mainGlobals "_law_names" = some (some (.ref f50)))
    (l50 : K.lookup f50 = some ⟨oc50, od50, .func (PySem.W.fnOf "_law_names" "_law_names" (defArgs s__law_names) (defBody s__law_names) (defScope s__law_names) .none kV50 dc50 pm50 an50 cd50 ct50), sl50⟩)
    (c50 : PySem.W.codeIn K cd50 "_law_names" = true)
    (k50 : PySem.W.keepIn K (.ref f50) = true)
    (a51 : PySem.W.nsIn K mainGlobals "_law_flip" = some (some (.ref f51)))
    (l51 : K.lookup f51 = some ⟨oc51, od51, .func (PySem.W.fnOf "_law_flip" "_law_flip" (defArgs s__law_flip) (defBody s__law_flip) (defScope s__law_flip) .none kV51 dc51 pm51 an51 cd51 ct51), sl51⟩)
    (c51 : PySem.W.codeIn K cd51 "_law_flip" = true)
    (k51 : PySem.W.keepIn K (.ref f51) = true)
    (a52 : PySem.W.nsIn K mainGlobals "_law_name" = some (some (.ref f52)))
    (l52 : K.lookup f52 = some ⟨oc52, od52, .func (PySem.W.fnOf "_law_name" "_law_name" (defArgs s__law_name) (defBody s__law_name) (defScope s__law_name) .none kV52 dc52 pm52 an52 cd52 ct52), sl52⟩)
    (c52 : PySem.W.codeIn K cd52 "_law_name" = true)
    (k52 : PySem.W.keepIn K (.ref f52) = true)
    (a53 : PySem.W.nsIn K mainGlobals "_law_sorted" = some (some (.ref f53)))
    (l53 : K.lookup f53 = some ⟨oc53, od53, .func (PySem.W.fnOf "_law_sorted" "_law_sorted" (defArgs s__law_sorted) (defBody s__law_sorted) (defScope s__law_sorted) .none kV53 dc53 pm53 an53 cd53 ct53), sl53⟩)
    (c53 : PySem.W.codeIn K cd53 "_law_sorted" = true)
    (k53 : PySem.W.keepIn K (.ref f53) = true)
    (a54 : PySem.W.nsIn K mainGlobals "_law_same" = some (some (.ref f54)))
    (l54 : K.lookup f54 = some ⟨oc54, od54, .func (PySem.W.fnOf "_law_same" "_law_same" (defArgs s__law_same) (defBody s__law_same) (defScope s__law_same) .none kV54 dc54 pm54 an54 cd54 ct54), sl54⟩)
    (c54 : PySem.W.codeIn K cd54 "_law_same" = true)
    (k54 : PySem.W.keepIn K (.ref f54) = true)
    (a55 : PySem.W.nsIn K mainGlobals "_law_row" = some (some (.ref f55)))
    (l55 : K.lookup f55 = some ⟨oc55, od55, .func (PySem.W.fnOf "_law_row" "_law_row" (defArgs s__law_row) (defBody s__law_row) (defScope s__law_row) .none kV55 dc55 pm55 an55 cd55 ct55), sl55⟩)
    (c55 : PySem.W.codeIn K cd55 "_law_row" = true)
    (k55 : PySem.W.keepIn K (.ref f55) = true)
    (a56 : PySem.W.nsIn K mainGlobals "_law_knot" = some (some (.ref f56)))
    (l56 : K.lookup f56 = some ⟨oc56, od56, .func (PySem.W.fnOf "_law_knot" "_law_knot" (defArgs s__law_knot) (defBody s__law_knot) (defScope s__law_knot) .none kV56 dc56 pm56 an56 cd56 ct56), sl56⟩)
    (c56 : PySem.W.codeIn K cd56 "_law_knot" = true)
    (k56 : PySem.W.keepIn K (.ref f56) = true)
    (a57 : PySem.W.nsIn K mainGlobals "_law_clause" = some (some (.ref f57)))
    (l57 : K.lookup f57 = some ⟨oc57, od57, .func (PySem.W.fnOf "_law_clause" "_law_clause" (defArgs s__law_clause) (defBody s__law_clause) (defScope s__law_clause) .none kV57 dc57 pm57 an57 cd57 ct57), sl57⟩)
    (c57 : PySem.W.codeIn K cd57 "_law_clause" = true)
    (k57 : PySem.W.keepIn K (.ref f57) = true)
    (a58 : PySem.W.nsIn K mainGlobals "_law_numbers" = some (some (.ref f58)))
    (l58 : K.lookup f58 = some ⟨oc58, od58, .func (PySem.W.fnOf "_law_numbers" "_law_numbers" (defArgs s__law_numbers) (defBody s__law_numbers) (defScope s__law_numbers) .none kV58 dc58 pm58 an58 cd58 ct58), sl58⟩)
    (c58 : PySem.W.codeIn K cd58 "_law_numbers" = true)
    (k58 : PySem.W.keepIn K (.ref f58) = true)
    (a59 : PySem.W.nsIn K mainGlobals "_law_book" = some (some (.ref f59)))
    (l59 : K.lookup f59 = some ⟨oc59, od59, .func (PySem.W.fnOf "_law_book" "_law_book" (defArgs s__law_book) (defBody s__law_book) (defScope s__law_book) .none kV59 dc59 pm59 an59 cd59 ct59), sl59⟩)
    (c59 : PySem.W.codeIn K cd59 "_law_book" = true)
    (k59 : PySem.W.keepIn K (.ref f59) = true)
    (a60 : PySem.W.nsIn K mainGlobals "_law_names_in" = some (some (.ref f60)))
    (l60 : K.lookup f60 = some ⟨oc60, od60, .func (PySem.W.fnOf "_law_names_in" "_law_names_in" (defArgs s__law_names_in) (defBody s__law_names_in) (defScope s__law_names_in) .none kV60 dc60 pm60 an60 cd60 ct60), sl60⟩)
    (c60 : PySem.W.codeIn K cd60 "_law_names_in" = true)
    (k60 : PySem.W.keepIn K (.ref f60) = true)
    (a61 : PySem.W.nsIn K mainGlobals "_law_reach" = some (some (.ref f61)))
    (l61 : K.lookup f61 = some ⟨oc61, od61, .func (PySem.W.fnOf "_law_reach" "_law_reach" (defArgs s__law_reach) (defBody s__law_reach) (defScope s__law_reach) .none kV61 dc61 pm61 an61 cd61 ct61), sl61⟩)
    (c61 : PySem.W.codeIn K cd61 "_law_reach" = true)
    (k61 : PySem.W.keepIn K (.ref f61) = true)
    (a62 : PySem.W.nsIn K mainGlobals "_law_rings" = some (some (.ref f62)))
    (l62 : K.lookup f62 = some ⟨oc62, od62, .func (PySem.W.fnOf "_law_rings" "_law_rings" (defArgs s__law_rings) (defBody s__law_rings) (defScope s__law_rings) .none kV62 dc62 pm62 an62 cd62 ct62), sl62⟩)
    (c62 : PySem.W.codeIn K cd62 "_law_rings" = true)
    (k62 : PySem.W.keepIn K (.ref f62) = true)
    (a63 : PySem.W.nsIn K mainGlobals "_law_is_link" = some (some (.ref f63)))
    (l63 : K.lookup f63 = some ⟨oc63, od63, .func (PySem.W.fnOf "_law_is_link" "_law_is_link" (defArgs s__law_is_link) (defBody s__law_is_link) (defScope s__law_is_link) .none kV63 dc63 pm63 an63 cd63 ct63), sl63⟩)
    (c63 : PySem.W.codeIn K cd63 "_law_is_link" = true)
    (k63 : PySem.W.keepIn K (.ref f63) = true)
    (a64 : PySem.W.nsIn K mainGlobals "_law_is_chain" = some (some (.ref f64)))
    (l64 : K.lookup f64 = some ⟨oc64, od64, .func (PySem.W.fnOf "_law_is_chain" "_law_is_chain" (defArgs s__law_is_chain) (defBody s__law_is_chain) (defScope s__law_is_chain) .none kV64 dc64 pm64 an64 cd64 ct64), sl64⟩)
    (c64 : PySem.W.codeIn K cd64 "_law_is_chain" = true)
    (k64 : PySem.W.keepIn K (.ref f64) = true)
    (a65 : PySem.W.nsIn K mainGlobals "_law_loop" = some (some (.ref f65)))
    (l65 : K.lookup f65 = some ⟨oc65, od65, .func (PySem.W.fnOf "_law_loop" "_law_loop" (defArgs s__law_loop) (defBody s__law_loop) (defScope s__law_loop) .none kV65 dc65 pm65 an65 cd65 ct65), sl65⟩)
    (c65 : PySem.W.codeIn K cd65 "_law_loop" = true)
    (k65 : PySem.W.keepIn K (.ref f65) = true)
    (a66 : PySem.W.nsIn K mainGlobals "_law_numbers_of" = some (some (.ref f66)))
    (l66 : K.lookup f66 = some ⟨oc66, od66, .func (PySem.W.fnOf "_law_numbers_of" "_law_numbers_of" (defArgs s__law_numbers_of) (defBody s__law_numbers_of) (defScope s__law_numbers_of) .none kV66 dc66 pm66 an66 cd66 ct66), sl66⟩)
    (c66 : PySem.W.codeIn K cd66 "_law_numbers_of" = true)
    (k66 : PySem.W.keepIn K (.ref f66) = true)
    (a67 : PySem.W.nsIn K mainGlobals "_law_ring_holds" = some (some (.ref f67)))
    (l67 : K.lookup f67 = some ⟨oc67, od67, .func (PySem.W.fnOf "_law_ring_holds" "_law_ring_holds" (defArgs s__law_ring_holds) (defBody s__law_ring_holds) (defScope s__law_ring_holds) .none kV67 dc67 pm67 an67 cd67 ct67), sl67⟩)
    (c67 : PySem.W.codeIn K cd67 "_law_ring_holds" = true)
    (k67 : PySem.W.keepIn K (.ref f67) = true)
    (a68 : PySem.W.nsIn K mainGlobals "_law_knots" = some (some (.ref f68)))
    (l68 : K.lookup f68 = some ⟨oc68, od68, .func (PySem.W.fnOf "_law_knots" "_law_knots" (defArgs s__law_knots) (defBody s__law_knots) (defScope s__law_knots) .none kV68 dc68 pm68 an68 cd68 ct68), sl68⟩)
    (c68 : PySem.W.codeIn K cd68 "_law_knots" = true)
    (k68 : PySem.W.keepIn K (.ref f68) = true)
    (a69 : PySem.W.nsIn K mainGlobals "_law_world" = some (some (.ref f69)))
    (l69 : K.lookup f69 = some ⟨oc69, od69, .func (PySem.W.fnOf "_law_world" "_law_world" (defArgs s__law_world) (defBody s__law_world) (defScope s__law_world) .none kV69 dc69 pm69 an69 cd69 ct69), sl69⟩)
    (c69 : PySem.W.codeIn K cd69 "_law_world" = true)
    (k69 : PySem.W.keepIn K (.ref f69) = true)
    (a70 : PySem.W.nsIn K mainGlobals "_law_ring" = some (some (.ref f70)))
    (l70 : K.lookup f70 = some ⟨oc70, od70, .func (PySem.W.fnOf "_law_ring" "_law_ring" (defArgs s__law_ring) (defBody s__law_ring) (defScope s__law_ring) .none kV70 dc70 pm70 an70 cd70 ct70), sl70⟩)
    (c70 : PySem.W.codeIn K cd70 "_law_ring" = true)
    (k70 : PySem.W.keepIn K (.ref f70) = true)
    (a71 : PySem.W.nsIn K mainGlobals "_law_apart" = some (some (.ref f71)))
    (l71 : K.lookup f71 = some ⟨oc71, od71, .func (PySem.W.fnOf "_law_apart" "_law_apart" (defArgs s__law_apart) (defBody s__law_apart) (defScope s__law_apart) .none kV71 dc71 pm71 an71 cd71 ct71), sl71⟩)
    (c71 : PySem.W.codeIn K cd71 "_law_apart" = true)
    (k71 : PySem.W.keepIn K (.ref f71) = true)
    (a72 : PySem.W.nsIn K mainGlobals "law" = some (some (.ref f72)))
    (l72 : K.lookup f72 = some ⟨oc72, od72, .func (PySem.W.fnOf "law" "law" (defArgs s_law) (defBody s_law) (defScope s_law) .none kV72 dc72 pm72 an72 cd72 ct72), sl72⟩)
    (c72 : PySem.W.codeIn K cd72 "law" = true)
    (k72 : PySem.W.keepIn K (.ref f72) = true)
    (v0 : PySem.W.nsIn K mainGlobals "LETTERS" = some (some (.str "abcdefghijklmnopqrstuvwxyz" tk0)))
    (v1 : PySem.W.nsIn K mainGlobals "LETTERS_AND_DIGITS" = some (some (.str "abcdefghijklmnopqrstuvwxyz0123456789" tk1)))
    (v2 : PySem.W.nsIn K mainGlobals "LONGEST_NAME" = some (some (.int 8 tk2)))
    (eg0 : PySem.W.nsIn K mainGlobals "HornError" = some (some (.ref C_HornError)))
    (eg1 : PySem.W.nsIn K mainGlobals "BadName" = some (some (.ref C_BadName)))
    (el1 : K.lookup C_BadName = some (excClassObj n_1 q_1 C_BadName N_1 bs_1 bm_1 true sn_1 sub_1 ab_1 col_1 dd_1 w0_1 w1_1 w2_1 w3_1 w5_1 "ValueError.__new__"))
    (er1 : PySem.HandSPX.refsVE bm_1 = true)
    (esa1 : PySem.W.findIn K (.ref C_BadName) "__setattr__" = some (some (.builtin "object.__setattr__")))
    (ega1 : PySem.W.findIn K (.ref C_BadName) "__getattribute__" = some (some (.builtin "BaseException.__getattribute__")))
    (egg1 : PySem.W.findIn K (.ref C_BadName) "__getattr__" = some none)
    (ein1 : PySem.W.findIn K (.ref C_BadName) "__init__" = some (some (.ref i_BadName)))
    (ecl1 : PySem.W.findIn K (.ref C_BadName) "__class__" = some (some (.builtin "object.__class__")))
    (efn1 : PySem.W.findIn K (.ref C_BadName) "text" = some none)
    (eti1 : PySem.W.typeIn K (.ref i_BadName) = some (.type "function"))
    (ekc1 : PySem.W.keepIn K (.ref C_BadName) = true)
    (ebe1 : PySem.W.subIn K (.ref C_BadName) (.type "BaseException") = some true)
    (eve1 : PySem.W.subIn K (.ref C_BadName) (.type "ValueError") = some true)
    (ety1 : PySem.W.typeIn K (.ref C_BadName) = some (.type "type"))
    (ehd1 : PySem.W.hasDictIn K C_BadName = true)
    (eic1 : PySem.W.isClsIn K C_BadName = true)
    (ess1 : PySem.W.subIn K (.ref C_BadName) (.ref C_BadName) = some true)
    (eup1 : PySem.W.ks_superIn K C_BadName C_BadName "__init__" = some (some (.builtin "ValueError.__init__")))
    (emr1 : PySem.W.mroIn K C_BadName (.ref C_BadName) = some true)
    (emo1 : PySem.W.mroIn K C_BadName (.type "object") = some true)
    (elf1 : K.lookup i_BadName = some ⟨oce_1, ode_1, .func (PySem.W.ksFn "__init__" ("BadName" ++ ".__init__") ea_BadName eb_BadName (scope1 "text") .none .none dce_1 pme_1 ane_1 (.ref cda1) cte_1 cc1), sle_1⟩)
    (ecd1 : PySem.W.codeIn K (.ref cda1) ("BadName" ++ ".__init__") = true)
    (elc1 : K.lookup cda1 = some ⟨ccl_1, cdd_1, .fields vs_1, ccs_1⟩)
    (evs1 : vs_1[2]? = some (.str file_1 tf_1))
    (efi1 : (l.prog.main.file == file_1) = true)
    (ece1 : K.lookup cc1 = some ⟨cl_1, cld_1, .cell (some (.ref C_BadName)), csl_1⟩)
    (eg2 : PySem.W.nsIn K mainGlobals "BadLiteral" = some (some (.ref C_BadLiteral)))
    (el2 : K.lookup C_BadLiteral = some (excClassObj n_2 q_2 C_BadLiteral N_2 bs_2 bm_2 true sn_2 sub_2 ab_2 col_2 dd_2 w0_2 w1_2 w2_2 w3_2 w5_2 "ValueError.__new__"))
    (er2 : PySem.HandSPX.refsVE bm_2 = true)
    (esa2 : PySem.W.findIn K (.ref C_BadLiteral) "__setattr__" = some (some (.builtin "object.__setattr__")))
    (ega2 : PySem.W.findIn K (.ref C_BadLiteral) "__getattribute__" = some (some (.builtin "BaseException.__getattribute__")))
    (egg2 : PySem.W.findIn K (.ref C_BadLiteral) "__getattr__" = some none)
    (ein2 : PySem.W.findIn K (.ref C_BadLiteral) "__init__" = some (some (.ref i_BadLiteral)))
    (ecl2 : PySem.W.findIn K (.ref C_BadLiteral) "__class__" = some (some (.builtin "object.__class__")))
    (efn2 : PySem.W.findIn K (.ref C_BadLiteral) "text" = some none)
    (eti2 : PySem.W.typeIn K (.ref i_BadLiteral) = some (.type "function"))
    (ekc2 : PySem.W.keepIn K (.ref C_BadLiteral) = true)
    (ebe2 : PySem.W.subIn K (.ref C_BadLiteral) (.type "BaseException") = some true)
    (eve2 : PySem.W.subIn K (.ref C_BadLiteral) (.type "ValueError") = some true)
    (ety2 : PySem.W.typeIn K (.ref C_BadLiteral) = some (.type "type"))
    (ehd2 : PySem.W.hasDictIn K C_BadLiteral = true)
    (eic2 : PySem.W.isClsIn K C_BadLiteral = true)
    (ess2 : PySem.W.subIn K (.ref C_BadLiteral) (.ref C_BadLiteral) = some true)
    (eup2 : PySem.W.ks_superIn K C_BadLiteral C_BadLiteral "__init__" = some (some (.builtin "ValueError.__init__")))
    (emr2 : PySem.W.mroIn K C_BadLiteral (.ref C_BadLiteral) = some true)
    (emo2 : PySem.W.mroIn K C_BadLiteral (.type "object") = some true)
    (elf2 : K.lookup i_BadLiteral = some ⟨oce_2, ode_2, .func (PySem.W.ksFn "__init__" ("BadLiteral" ++ ".__init__") ea_BadLiteral eb_BadLiteral (scope1 "text") .none .none dce_2 pme_2 ane_2 (.ref cda2) cte_2 cc2), sle_2⟩)
    (ecd2 : PySem.W.codeIn K (.ref cda2) ("BadLiteral" ++ ".__init__") = true)
    (elc2 : K.lookup cda2 = some ⟨ccl_2, cdd_2, .fields vs_2, ccs_2⟩)
    (evs2 : vs_2[2]? = some (.str file_2 tf_2))
    (efi2 : (l.prog.main.file == file_2) = true)
    (ece2 : K.lookup cc2 = some ⟨cl_2, cld_2, .cell (some (.ref C_BadLiteral)), csl_2⟩)
    (eg3 : PySem.W.nsIn K mainGlobals "BothSigns" = some (some (.ref C_BothSigns)))
    (el3 : K.lookup C_BothSigns = some (excClassObj n_3 q_3 C_BothSigns N_3 bs_3 bm_3 true sn_3 sub_3 ab_3 col_3 dd_3 w0_3 w1_3 w2_3 w3_3 w5_3 "ValueError.__new__"))
    (er3 : PySem.HandSPX.refsVE bm_3 = true)
    (esa3 : PySem.W.findIn K (.ref C_BothSigns) "__setattr__" = some (some (.builtin "object.__setattr__")))
    (ega3 : PySem.W.findIn K (.ref C_BothSigns) "__getattribute__" = some (some (.builtin "BaseException.__getattribute__")))
    (egg3 : PySem.W.findIn K (.ref C_BothSigns) "__getattr__" = some none)
    (ein3 : PySem.W.findIn K (.ref C_BothSigns) "__init__" = some (some (.ref i_BothSigns)))
    (ecl3 : PySem.W.findIn K (.ref C_BothSigns) "__class__" = some (some (.builtin "object.__class__")))
    (efn3 : PySem.W.findIn K (.ref C_BothSigns) "name" = some none)
    (eti3 : PySem.W.typeIn K (.ref i_BothSigns) = some (.type "function"))
    (ekc3 : PySem.W.keepIn K (.ref C_BothSigns) = true)
    (ebe3 : PySem.W.subIn K (.ref C_BothSigns) (.type "BaseException") = some true)
    (eve3 : PySem.W.subIn K (.ref C_BothSigns) (.type "ValueError") = some true)
    (ety3 : PySem.W.typeIn K (.ref C_BothSigns) = some (.type "type"))
    (ehd3 : PySem.W.hasDictIn K C_BothSigns = true)
    (eic3 : PySem.W.isClsIn K C_BothSigns = true)
    (ess3 : PySem.W.subIn K (.ref C_BothSigns) (.ref C_BothSigns) = some true)
    (eup3 : PySem.W.ks_superIn K C_BothSigns C_BothSigns "__init__" = some (some (.builtin "ValueError.__init__")))
    (emr3 : PySem.W.mroIn K C_BothSigns (.ref C_BothSigns) = some true)
    (emo3 : PySem.W.mroIn K C_BothSigns (.type "object") = some true)
    (elf3 : K.lookup i_BothSigns = some ⟨oce_3, ode_3, .func (PySem.W.ksFn "__init__" ("BothSigns" ++ ".__init__") ea_BothSigns eb_BothSigns (scope1 "name") .none .none dce_3 pme_3 ane_3 (.ref cda3) cte_3 cc3), sle_3⟩)
    (ecd3 : PySem.W.codeIn K (.ref cda3) ("BothSigns" ++ ".__init__") = true)
    (elc3 : K.lookup cda3 = some ⟨ccl_3, cdd_3, .fields vs_3, ccs_3⟩)
    (evs3 : vs_3[2]? = some (.str file_3 tf_3))
    (efi3 : (l.prog.main.file == file_3) = true)
    (ece3 : K.lookup cc3 = some ⟨cl_3, cld_3, .cell (some (.ref C_BothSigns)), csl_3⟩)
    (eg4 : PySem.W.nsIn K mainGlobals "TooMany" = some (some (.ref C_TooMany)))
    (el4 : K.lookup C_TooMany = some (excClassObj n_4 q_4 C_TooMany N_4 bs_4 bm_4 true sn_4 sub_4 ab_4 col_4 dd_4 w0_4 w1_4 w2_4 w3_4 w5_4 "ValueError.__new__"))
    (er4 : PySem.HandSPX.refsVE bm_4 = true)
    (esa4 : PySem.W.findIn K (.ref C_TooMany) "__setattr__" = some (some (.builtin "object.__setattr__")))
    (ega4 : PySem.W.findIn K (.ref C_TooMany) "__getattribute__" = some (some (.builtin "BaseException.__getattribute__")))
    (egg4 : PySem.W.findIn K (.ref C_TooMany) "__getattr__" = some none)
    (ein4 : PySem.W.findIn K (.ref C_TooMany) "__init__" = some (some (.ref i_TooMany)))
    (ecl4 : PySem.W.findIn K (.ref C_TooMany) "__class__" = some (some (.builtin "object.__class__")))
    (efn4 : PySem.W.findIn K (.ref C_TooMany) "limit" = some none)
    (eti4 : PySem.W.typeIn K (.ref i_TooMany) = some (.type "function"))
    (ekc4 : PySem.W.keepIn K (.ref C_TooMany) = true)
    (ebe4 : PySem.W.subIn K (.ref C_TooMany) (.type "BaseException") = some true)
    (eve4 : PySem.W.subIn K (.ref C_TooMany) (.type "ValueError") = some true)
    (ety4 : PySem.W.typeIn K (.ref C_TooMany) = some (.type "type"))
    (ehd4 : PySem.W.hasDictIn K C_TooMany = true)
    (eic4 : PySem.W.isClsIn K C_TooMany = true)
    (ess4 : PySem.W.subIn K (.ref C_TooMany) (.ref C_TooMany) = some true)
    (eup4 : PySem.W.ks_superIn K C_TooMany C_TooMany "__init__" = some (some (.builtin "ValueError.__init__")))
    (emr4 : PySem.W.mroIn K C_TooMany (.ref C_TooMany) = some true)
    (emo4 : PySem.W.mroIn K C_TooMany (.type "object") = some true)
    (elf4 : K.lookup i_TooMany = some ⟨oce_4, ode_4, .func (PySem.W.ksFn "__init__" ("TooMany" ++ ".__init__") ea_TooMany eb_TooMany (scope1 "limit") .none .none dce_4 pme_4 ane_4 (.ref cda4) cte_4 cc4), sle_4⟩)
    (ecd4 : PySem.W.codeIn K (.ref cda4) ("TooMany" ++ ".__init__") = true)
    (elc4 : K.lookup cda4 = some ⟨ccl_4, cdd_4, .fields vs_4, ccs_4⟩)
    (evs4 : vs_4[2]? = some (.str file_4 tf_4))
    (efi4 : (l.prog.main.file == file_4) = true)
    (ece4 : K.lookup cc4 = some ⟨cl_4, cld_4, .cell (some (.ref C_TooMany)), csl_4⟩)
    (eg5 : PySem.W.nsIn K mainGlobals "NoClause" = some (some (.ref C_NoClause)))
    (el5 : K.lookup C_NoClause = some (excClassObj n_5 q_5 C_NoClause N_5 bs_5 bm_5 true sn_5 sub_5 ab_5 col_5 dd_5 w0_5 w1_5 w2_5 w3_5 w5_5 "ValueError.__new__"))
    (er5 : PySem.HandSPX.refsVE bm_5 = true)
    (esa5 : PySem.W.findIn K (.ref C_NoClause) "__setattr__" = some (some (.builtin "object.__setattr__")))
    (ega5 : PySem.W.findIn K (.ref C_NoClause) "__getattribute__" = some (some (.builtin "BaseException.__getattribute__")))
    (egg5 : PySem.W.findIn K (.ref C_NoClause) "__getattr__" = some none)
    (ein5 : PySem.W.findIn K (.ref C_NoClause) "__init__" = some (some (.ref i_NoClause)))
    (ecl5 : PySem.W.findIn K (.ref C_NoClause) "__class__" = some (some (.builtin "object.__class__")))
    (efn5 : PySem.W.findIn K (.ref C_NoClause) "number" = some none)
    (eti5 : PySem.W.typeIn K (.ref i_NoClause) = some (.type "function"))
    (ekc5 : PySem.W.keepIn K (.ref C_NoClause) = true)
    (ebe5 : PySem.W.subIn K (.ref C_NoClause) (.type "BaseException") = some true)
    (eve5 : PySem.W.subIn K (.ref C_NoClause) (.type "ValueError") = some true)
    (ety5 : PySem.W.typeIn K (.ref C_NoClause) = some (.type "type"))
    (ehd5 : PySem.W.hasDictIn K C_NoClause = true)
    (eic5 : PySem.W.isClsIn K C_NoClause = true)
    (ess5 : PySem.W.subIn K (.ref C_NoClause) (.ref C_NoClause) = some true)
    (eup5 : PySem.W.ks_superIn K C_NoClause C_NoClause "__init__" = some (some (.builtin "ValueError.__init__")))
    (emr5 : PySem.W.mroIn K C_NoClause (.ref C_NoClause) = some true)
    (emo5 : PySem.W.mroIn K C_NoClause (.type "object") = some true)
    (elf5 : K.lookup i_NoClause = some ⟨oce_5, ode_5, .func (PySem.W.ksFn "__init__" ("NoClause" ++ ".__init__") ea_NoClause eb_NoClause (scope1 "number") .none .none dce_5 pme_5 ane_5 (.ref cda5) cte_5 cc5), sle_5⟩)
    (ecd5 : PySem.W.codeIn K (.ref cda5) ("NoClause" ++ ".__init__") = true)
    (elc5 : K.lookup cda5 = some ⟨ccl_5, cdd_5, .fields vs_5, ccs_5⟩)
    (evs5 : vs_5[2]? = some (.str file_5 tf_5))
    (efi5 : (l.prog.main.file == file_5) = true)
    (ece5 : K.lookup cc5 = some ⟨cl_5, cld_5, .cell (some (.ref C_NoClause)), csl_5⟩)
    (eg6 : PySem.W.nsIn K mainGlobals "BadNumber" = some (some (.ref C_BadNumber)))
    (el6 : K.lookup C_BadNumber = some (excClassObj n_6 q_6 C_BadNumber N_6 bs_6 bm_6 true sn_6 sub_6 ab_6 col_6 dd_6 w0_6 w1_6 w2_6 w3_6 w5_6 "ValueError.__new__"))
    (er6 : PySem.HandSPX.refsVE bm_6 = true)
    (esa6 : PySem.W.findIn K (.ref C_BadNumber) "__setattr__" = some (some (.builtin "object.__setattr__")))
    (ega6 : PySem.W.findIn K (.ref C_BadNumber) "__getattribute__" = some (some (.builtin "BaseException.__getattribute__")))
    (egg6 : PySem.W.findIn K (.ref C_BadNumber) "__getattr__" = some none)
    (ein6 : PySem.W.findIn K (.ref C_BadNumber) "__init__" = some (some (.ref i_BadNumber)))
    (ecl6 : PySem.W.findIn K (.ref C_BadNumber) "__class__" = some (some (.builtin "object.__class__")))
    (efn6 : PySem.W.findIn K (.ref C_BadNumber) "number" = some none)
    (eti6 : PySem.W.typeIn K (.ref i_BadNumber) = some (.type "function"))
    (ekc6 : PySem.W.keepIn K (.ref C_BadNumber) = true)
    (ebe6 : PySem.W.subIn K (.ref C_BadNumber) (.type "BaseException") = some true)
    (eve6 : PySem.W.subIn K (.ref C_BadNumber) (.type "ValueError") = some true)
    (ety6 : PySem.W.typeIn K (.ref C_BadNumber) = some (.type "type"))
    (ehd6 : PySem.W.hasDictIn K C_BadNumber = true)
    (eic6 : PySem.W.isClsIn K C_BadNumber = true)
    (ess6 : PySem.W.subIn K (.ref C_BadNumber) (.ref C_BadNumber) = some true)
    (eup6 : PySem.W.ks_superIn K C_BadNumber C_BadNumber "__init__" = some (some (.builtin "ValueError.__init__")))
    (emr6 : PySem.W.mroIn K C_BadNumber (.ref C_BadNumber) = some true)
    (emo6 : PySem.W.mroIn K C_BadNumber (.type "object") = some true)
    (elf6 : K.lookup i_BadNumber = some ⟨oce_6, ode_6, .func (PySem.W.ksFn "__init__" ("BadNumber" ++ ".__init__") ea_BadNumber eb_BadNumber (scope1 "number") .none .none dce_6 pme_6 ane_6 (.ref cda6) cte_6 cc6), sle_6⟩)
    (ecd6 : PySem.W.codeIn K (.ref cda6) ("BadNumber" ++ ".__init__") = true)
    (elc6 : K.lookup cda6 = some ⟨ccl_6, cdd_6, .fields vs_6, ccs_6⟩)
    (evs6 : vs_6[2]? = some (.str file_6 tf_6))
    (efi6 : (l.prog.main.file == file_6) = true)
    (ece6 : K.lookup cc6 = some ⟨cl_6, cld_6, .cell (some (.ref C_BadNumber)), csl_6⟩)
    (z0 : PySem.W.nsIn K mainGlobals "NotImplemented" = some none)
    (z1 : PySem.W.nsIn K mainGlobals "ValueError" = some none)
    (z2 : PySem.W.nsIn K mainGlobals "all" = some none)
    (z3 : PySem.W.nsIn K mainGlobals "any" = some none)
    (z4 : PySem.W.nsIn K mainGlobals "bool" = some none)
    (z5 : PySem.W.nsIn K mainGlobals "classmethod" = some none)
    (z6 : PySem.W.nsIn K mainGlobals "enumerate" = some none)
    (z7 : PySem.W.nsIn K mainGlobals "int" = some none)
    (z8 : PySem.W.nsIn K mainGlobals "isinstance" = some none)
    (z9 : PySem.W.nsIn K mainGlobals "iter" = some none)
    (z10 : PySem.W.nsIn K mainGlobals "len" = some none)
    (z11 : PySem.W.nsIn K mainGlobals "list" = some none)
    (z12 : PySem.W.nsIn K mainGlobals "property" = some none)
    (z13 : PySem.W.nsIn K mainGlobals "range" = some none)
    (z14 : PySem.W.nsIn K mainGlobals "set" = some none)
    (z15 : PySem.W.nsIn K mainGlobals "sorted" = some none)
    (z16 : PySem.W.nsIn K mainGlobals "str" = some none)
    (zsu : PySem.W.nsIn K mainGlobals "super" = some none)
    (z18 : PySem.W.nsIn K mainGlobals "tuple" = some none)
    (zop : PySem.W.nsIn K cStatics "thirdparty.any" = some none)
    (zsp : PySem.W.specialIn K (.builtin "object.__class__") "__get__" = some (some (.builtin "getset_descriptor.__get__")))
    (ztk : PySem.W.takesIn K (.builtin "object.__class__") = some true)
    (znm : (l.prog.main.scope.names.lookup ("super" : Str)).isSome = false)
    : ∃ fd : FuncData, (∀ (s : Shared) (v : Value), BindsTo s fd ⟨[v], []⟩ [("_law_script", v)]) ∧ ∀ base : Heap, K.In base → base.Ns mainGlobals mg → FnOk l.prog w K mg base CX0 19 fa fd ["_law_script"] (spLaw K) := by
  have e := hfa.symm.trans (PySem.W.mg_of X G a72)
  cases e
  have cl0 : Cls K C_Ring := ⟨cpg0, chd0, cpo0, csa0⟩
  have cl1 : Cls K C_Clause := ⟨cpg1, chd1, cpo1, csa1⟩
  have cl2 : Cls K C_Book := ⟨cpg2, chd2, cpo2, csa2⟩
  have F0 := fun_mk (st := s_is_name) l0 c0 k0
  have b0 := F0.binds (ps := ["text"]) fun _ _ _ _ _ _ us hl => match us, hl with | [_], _ => rfl
  have F1 := fun_mk (st := s_is_literal) l1 c1 k1
  have b1 := F1.binds (ps := ["text"]) fun _ _ _ _ _ _ us hl => match us, hl with | [_], _ => rfl
  have F2 := fun_mk (st := s_check_name) l2 c2 k2
  have b2 := F2.binds (ps := ["text"]) fun _ _ _ _ _ _ us hl => match us, hl with | [_], _ => rfl
  have F3 := fun_mk (st := s_check_literal) l3 c3 k3
  have b3 := F3.binds (ps := ["text"]) fun _ _ _ _ _ _ us hl => match us, hl with | [_], _ => rfl
  have F4 := fun_mk (st := s_name_of) l4 c4 k4
  have b4 := F4.binds (ps := ["literal"]) fun _ _ _ _ _ _ us hl => match us, hl with | [_], _ => rfl
  have F5 := fun_mk (st := s_is_positive) l5 c5 k5
  have b5 := F5.binds (ps := ["literal"]) fun _ _ _ _ _ _ us hl => match us, hl with | [_], _ => rfl
  have F6 := fun_mk (st := s_negated) l6 c6 k6
  have b6 := F6.binds (ps := ["literal"]) fun _ _ _ _ _ _ us hl => match us, hl with | [_], _ => rfl
  have F7 := fun_mk (st := s_both_signs) l7 c7 k7
  have b7 := F7.binds (ps := ["names"]) fun _ _ _ _ _ _ us hl => match us, hl with | [_], _ => rfl
  have F8 := fun_mk (st := s_in_order) l8 c8 k8
  have b8 := F8.binds (ps := ["literals"]) fun _ _ _ _ _ _ us hl => match us, hl with | [_], _ => rfl
  have F9 := fun_mk (st := s_check_signs) l9 c9 k9
  have b9 := F9.binds (ps := ["ordered"]) fun _ _ _ _ _ _ us hl => match us, hl with | [_], _ => rfl
  have F10 := fun_mk (st := s_needs) l10 c10 k10
  have b10 := F10.binds (ps := ["book", "literal"]) fun _ _ _ _ _ _ us hl => match us, hl with | [_, _], _ => rfl
  have F11 := fun_mk (st := s_all_needs) l11 c11 k11
  have b11 := F11.binds (ps := ["book"]) fun _ _ _ _ _ _ us hl => match us, hl with | [_], _ => rfl
  have F12 := fun_mk (st := s__arrivals) l12 c12 k12
  have b12 := F12.binds (ps := ["table", "start"]) fun _ _ _ _ _ _ us hl => match us, hl with | [_, _], _ => rfl
  have F13 := fun_mk (st := s_all_reached) l13 c13 k13
  have b13 := F13.binds (ps := ["book"]) fun _ _ _ _ _ _ us hl => match us, hl with | [_], _ => rfl
  have F14 := fun_mk (st := s_chain) l14 c14 k14
  have b14 := F14.binds (ps := ["book", "start", "goal"]) fun _ _ _ _ _ _ us hl => match us, hl with | [_, _, _], _ => rfl
  have F15 := fun_mk (st := s_is_chain) l15 c15 k15
  have b15 := F15.binds (ps := ["book", "start", "goal", "links"]) fun _ _ _ _ _ _ us hl => match us, hl with | [_, _, _, _], _ => rfl
  have F16 := fun_mk (st := s_Ring_init) l16 c16 k16
  have b16 := F16.binds (ps := ["self", "name", "there", "back"]) fun _ _ _ _ _ _ us hl => match us, hl with | [_, _, _, _], _ => rfl
  have F17 := fun_mk (st := s_Ring_numbers) l17 c17 k17
  have b17 := F17.binds (ps := ["self"]) fun _ _ _ _ _ _ us hl => match us, hl with | [_], _ => rfl
  have F18 := fun_mk (st := s_Ring_bars) l18 c18 k18
  have b18 := F18.binds (ps := ["self", "book"]) fun _ _ _ _ _ _ us hl => match us, hl with | [_, _], _ => rfl
  have F19 := fun_mk (st := s_ring_names) l19 c19 k19
  have b19 := F19.binds (ps := ["book"]) fun _ _ _ _ _ _ us hl => match us, hl with | [_], _ => rfl
  have F20 := fun_mk (st := s_ring_at) l20 c20 k20
  have b20 := F20.binds (ps := ["book", "name"]) fun _ _ _ _ _ _ us hl => match us, hl with | [_, _], _ => rfl
  have F21 := fun_mk (st := s_first_ring) l21 c21 k21
  have b21 := F21.binds (ps := ["book"]) fun _ _ _ _ _ _ us hl => match us, hl with | [_], _ => rfl
  have F22 := fun_mk (st := s_apart_rings) l22 c22 k22
  have b22 := F22.binds (ps := ["book"]) fun _ _ _ _ _ _ us hl => match us, hl with | [_], _ => rfl
  have F23 := fun_mk (st := s_Clause_init) l23 c23 k23
  have F24 := fun_mk (st := s_Clause_names) l24 c24 k24
  have b24 := F24.binds (ps := ["self"]) fun _ _ _ _ _ _ us hl => match us, hl with | [_], _ => rfl
  have F25 := fun_mk (st := s_Clause_iter) l25 c25 k25
  have b25 := F25.binds (ps := ["self"]) fun _ _ _ _ _ _ us hl => match us, hl with | [_], _ => rfl
  have F26 := fun_mk (st := s_Clause_contains) l26 c26 k26
  have b26 := F26.binds (ps := ["self", "x"]) fun _ _ _ _ _ _ us hl => match us, hl with | [_, _], _ => rfl
  have F27 := fun_mk (st := s_turned_literal) l27 c27 k27
  have b27 := F27.binds (ps := ["turning", "literal"]) fun _ _ _ _ _ _ us hl => match us, hl with | [_, _], _ => rfl
  have F28 := fun_mk (st := s_turned_clause) l28 c28 k28
  have b28 := F28.binds (ps := ["turning", "clause"]) fun _ _ _ _ _ _ us hl => match us, hl with | [_, _], _ => rfl
  have F29 := fun_mk (st := s__names_in) l29 c29 k29
  have b29 := F29.binds (ps := ["clauses"]) fun _ _ _ _ _ _ us hl => match us, hl with | [_], _ => rfl
  have F30 := fun_mk (st := s__check_names) l30 c30 k30
  have b30 := F30.binds (ps := ["clauses"]) fun _ _ _ _ _ _ us hl => match us, hl with | [_], _ => rfl
  have F31 := fun_mk (st := s__check_room) l31 c31 k31
  have b31 := F31.binds (ps := ["placed", "clause"]) fun _ _ _ _ _ _ us hl => match us, hl with | [_, _], _ => rfl
  have F32 := fun_mk (st := s__placed_from_one) l32 c32 k32
  have b32 := F32.binds (ps := ["clauses"]) fun _ _ _ _ _ _ us hl => match us, hl with | [_], _ => rfl
  have F33 := fun_mk (st := s__all_turned) l33 c33 k33
  have b33 := F33.binds (ps := ["placed", "turning"]) fun _ _ _ _ _ _ us hl => match us, hl with | [_, _], _ => rfl
  have F34 := fun_mk (st := s_book_of) l34 c34 k34
  have b34 := F34.binds (ps := ["placed", "last"]) fun _ _ _ _ _ _ us hl => match us, hl with | [_, _], _ => rfl
  have F35 := fun_mk (st := s_Book_init) l35 c35 k35
  have F36 := fun_mk (st := s_Book_numbered) l36 c36 k36
  have b36 := F36.binds (ps := ["cls", "pairs"]) fun _ _ _ _ _ _ us hl => match us, hl with | [_, _], _ => rfl
  have F37 := fun_mk (st := s_Book_names) l37 c37 k37
  have b37 := F37.binds (ps := ["self"]) fun _ _ _ _ _ _ us hl => match us, hl with | [_], _ => rfl
  have F38 := fun_mk (st := s_Book_next_number) l38 c38 k38
  have b38 := F38.binds (ps := ["self"]) fun _ _ _ _ _ _ us hl => match us, hl with | [_], _ => rfl
  have F39 := fun_mk (st := s_Book_put) l39 c39 k39
  have b39 := F39.binds (ps := ["self", "clause"]) fun _ _ _ _ _ _ us hl => match us, hl with | [_, _], _ => rfl
  have F40 := fun_mk (st := s_Book_drop) l40 c40 k40
  have b40 := F40.binds (ps := ["self", "number"]) fun _ _ _ _ _ _ us hl => match us, hl with | [_, _], _ => rfl
  have F41 := fun_mk (st := s_Book_copy) l41 c41 k41
  have b41 := F41.binds (ps := ["self"]) fun _ _ _ _ _ _ us hl => match us, hl with | [_], _ => rfl
  have F42 := fun_mk (st := s_Book_iter) l42 c42 k42
  have b42 := F42.binds (ps := ["self"]) fun _ _ _ _ _ _ us hl => match us, hl with | [_], _ => rfl
  have F43 := fun_mk (st := s_Book_len) l43 c43 k43
  have b43 := F43.binds (ps := ["self"]) fun _ _ _ _ _ _ us hl => match us, hl with | [_], _ => rfl
  have F44 := fun_mk (st := s_Book_contains) l44 c44 k44
  have b44 := F44.binds (ps := ["self", "x"]) fun _ _ _ _ _ _ us hl => match us, hl with | [_, _], _ => rfl
  have F45 := fun_mk (st := s_Book_getitem) l45 c45 k45
  have b45 := F45.binds (ps := ["self", "at"]) fun _ _ _ _ _ _ us hl => match us, hl with | [_, _], _ => rfl
  have F46 := fun_mk (st := s_Book_setitem) l46 c46 k46
  have b46 := F46.binds (ps := ["self", "at", "worth"]) fun _ _ _ _ _ _ us hl => match us, hl with | [_, _, _], _ => rfl
  have F47 := fun_mk (st := s__law_source) l47 c47 k47
  have b47 := F47.binds (ps := ["_law_script"]) fun _ _ _ _ _ _ us hl => match us, hl with | [_], _ => rfl
  have F48 := fun_mk (st := s__law_take) l48 c48 k48
  have b48 := F48.binds (ps := ["_law_source_here", "_law_many"]) fun _ _ _ _ _ _ us hl => match us, hl with | [_, _], _ => rfl
  have F49 := fun_mk (st := s__law_word) l49 c49 k49
  have b49 := F49.binds (ps := ["_law_source_here", "_law_size"]) fun _ _ _ _ _ _ us hl => match us, hl with | [_, _], _ => rfl
  have F50 := fun_mk (st := s__law_names) l50 c50 k50
  have b50 := F50.binds (ps := ["_law_source_here", "_law_many"]) fun _ _ _ _ _ _ us hl => match us, hl with | [_, _], _ => rfl
  have F51 := fun_mk (st := s__law_flip) l51 c51 k51
  have b51 := F51.binds (ps := ["_law_literal"]) fun _ _ _ _ _ _ us hl => match us, hl with | [_], _ => rfl
  have F52 := fun_mk (st := s__law_name) l52 c52 k52
  have b52 := F52.binds (ps := ["_law_literal"]) fun _ _ _ _ _ _ us hl => match us, hl with | [_], _ => rfl
  have F53 := fun_mk (st := s__law_sorted) l53 c53 k53
  have b53 := F53.binds (ps := ["_law_names_here"]) fun _ _ _ _ _ _ us hl => match us, hl with | [_], _ => rfl
  have F54 := fun_mk (st := s__law_same) l54 c54 k54
  have b54 := F54.binds (ps := ["_law_one", "_law_other"]) fun _ _ _ _ _ _ us hl => match us, hl with | [_, _], _ => rfl
  have F55 := fun_mk (st := s__law_row) l55 c55 k55
  have b55 := F55.binds (ps := ["_law_source_here", "_law_names_here", "_law_most"]) fun _ _ _ _ _ _ us hl => match us, hl with | [_, _, _], _ => rfl
  have F56 := fun_mk (st := s__law_knot) l56 c56 k56
  have b56 := F56.binds (ps := ["_law_one", "_law_other", "_law_source_here"]) fun _ _ _ _ _ _ us hl => match us, hl with | [_, _, _], _ => rfl
  have F57 := fun_mk (st := s__law_clause) l57 c57 k57
  have b57 := F57.binds (ps := ["_law_row_here"]) fun _ _ _ _ _ _ us hl => match us, hl with | [_], _ => rfl
  have F58 := fun_mk (st := s__law_numbers) l58 c58 k58
  have b58 := F58.binds (ps := ["_law_source_here", "_law_many"]) fun _ _ _ _ _ _ us hl => match us, hl with | [_, _], _ => rfl
  have F59 := fun_mk (st := s__law_book) l59 c59 k59
  have b59 := F59.binds (ps := ["_law_numbers_here", "_law_rows"]) fun _ _ _ _ _ _ us hl => match us, hl with | [_, _], _ => rfl
  have F60 := fun_mk (st := s__law_names_in) l60 c60 k60
  have b60 := F60.binds (ps := ["_law_rows"]) fun _ _ _ _ _ _ us hl => match us, hl with | [_], _ => rfl
  have F61 := fun_mk (st := s__law_reach) l61 c61 k61
  have b61 := F61.binds (ps := ["_law_rows", "_law_literal"]) fun _ _ _ _ _ _ us hl => match us, hl with | [_, _], _ => rfl
  have F62 := fun_mk (st := s__law_rings) l62 c62 k62
  have b62 := F62.binds (ps := ["_law_rows"]) fun _ _ _ _ _ _ us hl => match us, hl with | [_], _ => rfl
  have F63 := fun_mk (st := s__law_is_link) l63 c63 k63
  have b63 := F63.binds (ps := ["_law_numbers_here", "_law_rows", "_law_link"]) fun _ _ _ _ _ _ us hl => match us, hl with | [_, _, _], _ => rfl
  have F64 := fun_mk (st := s__law_is_chain) l64 c64 k64
  have b64 := F64.binds (ps := ["_law_numbers_here", "_law_rows", "_law_start", "_law_goal", "_law_links"]) fun _ _ _ _ _ _ us hl => match us, hl with | [_, _, _, _, _], _ => rfl
  have F65 := fun_mk (st := s__law_loop) l65 c65 k65
  have b65 := F65.binds (ps := ["_law_source_here", "_law_names_here"]) fun _ _ _ _ _ _ us hl => match us, hl with | [_, _], _ => rfl
  have F66 := fun_mk (st := s__law_numbers_of) l66 c66 k66
  have b66 := F66.binds (ps := ["_law_links"]) fun _ _ _ _ _ _ us hl => match us, hl with | [_], _ => rfl
  have F67 := fun_mk (st := s__law_ring_holds) l67 c67 k67
  have b67 := F67.binds (ps := ["_law_numbers_here", "_law_rows", "_law_name_here", "_law_there", "_law_back"]) fun _ _ _ _ _ _ us hl => match us, hl with | [_, _, _, _, _], _ => rfl
  have F68 := fun_mk (st := s__law_knots) l68 c68 k68
  have b68 := F68.binds (ps := ["_law_source_here", "_law_names_here"]) fun _ _ _ _ _ _ us hl => match us, hl with | [_, _], _ => rfl
  have F69 := fun_mk (st := s__law_world) l69 c69 k69
  have b69 := F69.binds (ps := ["_law_source_here", "_law_names_here"]) fun _ _ _ _ _ _ us hl => match us, hl with | [_, _], _ => rfl
  have F70 := fun_mk (st := s__law_ring) l70 c70 k70
  have b70 := F70.binds (ps := ["_law_book_here", "_law_numbers_here", "_law_rows", "_law_ring_here"]) fun _ _ _ _ _ _ us hl => match us, hl with | [_, _, _, _], _ => rfl
  have F71 := fun_mk (st := s__law_apart) l71 c71 k71
  have b71 := F71.binds (ps := ["_law_book_here", "_law_numbers_here", "_law_rows"]) fun _ _ _ _ _ _ us hl => match us, hl with | [_, _, _], _ => rfl
  have F72 := fun_mk (st := s_law) l72 c72 k72
  have b72 := F72.binds (ps := ["_law_script"]) fun _ _ _ _ _ _ us hl => match us, hl with | [_], _ => rfl
  have E_BadName : Cls1 l.prog K mg "BadName" C_BadName i_BadName ea_BadName eb_BadName (scope1 "text") := { gC := PySem.W.mg_of X G eg1, cls := ⟨n_1, q_1, N_1, bs_1, bm_1, sn_1, sub_1, ab_1, col_1, dd_1, w0_1, w1_1, w2_1, w3_1, w5_1, el1, er1⟩, sa := esa1, ga := ega1, gg := egg1, iC := ein1, tC := eti1, kC := ekc1, exC := ebe1, veC := eve1, tyC := ety1, hdC := ehd1, te := exm_self ebe1 eic1 ety1 ess1, up := eup1, self := emr1, op := zop, noS := PySem.W.mg_none_of X G zsu, fn := ⟨oce_1, ode_1, dce_1, pme_1, ane_1, cda1, cc1, cte_1, sle_1, ccl_1, cl_1, cdd_1, cld_1, vs_1, ccs_1, csl_1, file_1, tf_1, elf1, ecd1, elc1, evs1, efi1, ece1⟩, noM := znm }
  have X_BadName : ExcC K C_BadName := ⟨ega1, egg1, ebe1, ehd1, ecl1, zsp, ztk, emo1⟩
  have E_BadLiteral : Cls1 l.prog K mg "BadLiteral" C_BadLiteral i_BadLiteral ea_BadLiteral eb_BadLiteral (scope1 "text") := { gC := PySem.W.mg_of X G eg2, cls := ⟨n_2, q_2, N_2, bs_2, bm_2, sn_2, sub_2, ab_2, col_2, dd_2, w0_2, w1_2, w2_2, w3_2, w5_2, el2, er2⟩, sa := esa2, ga := ega2, gg := egg2, iC := ein2, tC := eti2, kC := ekc2, exC := ebe2, veC := eve2, tyC := ety2, hdC := ehd2, te := exm_self ebe2 eic2 ety2 ess2, up := eup2, self := emr2, op := zop, noS := PySem.W.mg_none_of X G zsu, fn := ⟨oce_2, ode_2, dce_2, pme_2, ane_2, cda2, cc2, cte_2, sle_2, ccl_2, cl_2, cdd_2, cld_2, vs_2, ccs_2, csl_2, file_2, tf_2, elf2, ecd2, elc2, evs2, efi2, ece2⟩, noM := znm }
  have X_BadLiteral : ExcC K C_BadLiteral := ⟨ega2, egg2, ebe2, ehd2, ecl2, zsp, ztk, emo2⟩
  have E_BothSigns : Cls1 l.prog K mg "BothSigns" C_BothSigns i_BothSigns ea_BothSigns eb_BothSigns (scope1 "name") := { gC := PySem.W.mg_of X G eg3, cls := ⟨n_3, q_3, N_3, bs_3, bm_3, sn_3, sub_3, ab_3, col_3, dd_3, w0_3, w1_3, w2_3, w3_3, w5_3, el3, er3⟩, sa := esa3, ga := ega3, gg := egg3, iC := ein3, tC := eti3, kC := ekc3, exC := ebe3, veC := eve3, tyC := ety3, hdC := ehd3, te := exm_self ebe3 eic3 ety3 ess3, up := eup3, self := emr3, op := zop, noS := PySem.W.mg_none_of X G zsu, fn := ⟨oce_3, ode_3, dce_3, pme_3, ane_3, cda3, cc3, cte_3, sle_3, ccl_3, cl_3, cdd_3, cld_3, vs_3, ccs_3, csl_3, file_3, tf_3, elf3, ecd3, elc3, evs3, efi3, ece3⟩, noM := znm }
  have X_BothSigns : ExcC K C_BothSigns := ⟨ega3, egg3, ebe3, ehd3, ecl3, zsp, ztk, emo3⟩
  have E_TooMany : Cls1 l.prog K mg "TooMany" C_TooMany i_TooMany ea_TooMany eb_TooMany (scope1 "limit") := { gC := PySem.W.mg_of X G eg4, cls := ⟨n_4, q_4, N_4, bs_4, bm_4, sn_4, sub_4, ab_4, col_4, dd_4, w0_4, w1_4, w2_4, w3_4, w5_4, el4, er4⟩, sa := esa4, ga := ega4, gg := egg4, iC := ein4, tC := eti4, kC := ekc4, exC := ebe4, veC := eve4, tyC := ety4, hdC := ehd4, te := exm_self ebe4 eic4 ety4 ess4, up := eup4, self := emr4, op := zop, noS := PySem.W.mg_none_of X G zsu, fn := ⟨oce_4, ode_4, dce_4, pme_4, ane_4, cda4, cc4, cte_4, sle_4, ccl_4, cl_4, cdd_4, cld_4, vs_4, ccs_4, csl_4, file_4, tf_4, elf4, ecd4, elc4, evs4, efi4, ece4⟩, noM := znm }
  have X_TooMany : ExcC K C_TooMany := ⟨ega4, egg4, ebe4, ehd4, ecl4, zsp, ztk, emo4⟩
  have E_NoClause : Cls1 l.prog K mg "NoClause" C_NoClause i_NoClause ea_NoClause eb_NoClause (scope1 "number") := { gC := PySem.W.mg_of X G eg5, cls := ⟨n_5, q_5, N_5, bs_5, bm_5, sn_5, sub_5, ab_5, col_5, dd_5, w0_5, w1_5, w2_5, w3_5, w5_5, el5, er5⟩, sa := esa5, ga := ega5, gg := egg5, iC := ein5, tC := eti5, kC := ekc5, exC := ebe5, veC := eve5, tyC := ety5, hdC := ehd5, te := exm_self ebe5 eic5 ety5 ess5, up := eup5, self := emr5, op := zop, noS := PySem.W.mg_none_of X G zsu, fn := ⟨oce_5, ode_5, dce_5, pme_5, ane_5, cda5, cc5, cte_5, sle_5, ccl_5, cl_5, cdd_5, cld_5, vs_5, ccs_5, csl_5, file_5, tf_5, elf5, ecd5, elc5, evs5, efi5, ece5⟩, noM := znm }
  have X_NoClause : ExcC K C_NoClause := ⟨ega5, egg5, ebe5, ehd5, ecl5, zsp, ztk, emo5⟩
  have E_BadNumber : Cls1 l.prog K mg "BadNumber" C_BadNumber i_BadNumber ea_BadNumber eb_BadNumber (scope1 "number") := { gC := PySem.W.mg_of X G eg6, cls := ⟨n_6, q_6, N_6, bs_6, bm_6, sn_6, sub_6, ab_6, col_6, dd_6, w0_6, w1_6, w2_6, w3_6, w5_6, el6, er6⟩, sa := esa6, ga := ega6, gg := egg6, iC := ein6, tC := eti6, kC := ekc6, exC := ebe6, veC := eve6, tyC := ety6, hdC := ehd6, te := exm_self ebe6 eic6 ety6 ess6, up := eup6, self := emr6, op := zop, noS := PySem.W.mg_none_of X G zsu, fn := ⟨oce_6, ode_6, dce_6, pme_6, ane_6, cda6, cc6, cte_6, sle_6, ccl_6, cl_6, cdd_6, cld_6, vs_6, ccs_6, csl_6, file_6, tf_6, elf6, ecd6, elc6, evs6, efi6, ece6⟩, noM := znm }
  have X_BadNumber : ExcC K C_BadNumber := ⟨ega6, egg6, ebe6, ehd6, ecl6, zsp, ztk, emo6⟩
  let T : Txt l.prog K mg := { C_Ring := C_Ring, g_Ring := PySem.W.mg_of X G cg0, cl_Ring := cl0, mi_Ring := cmi0, kc_Ring := ckc0, ins_Ring := ⟨cl0, cha0, zsp, ztk, cmo0, cme0⟩, na_Ring_name := cna0_0, na_Ring_there := cna0_1, na_Ring_back := cna0_2, C_Clause := C_Clause, g_Clause := PySem.W.mg_of X G cg1, cl_Clause := cl1, mi_Clause := cmi1, kc_Clause := ckc1, ins_Clause := ⟨cl1, cha1, zsp, ztk, cmo1, cme1⟩, na_Clause_literals := cna1_0, C_Book := C_Book, g_Book := PySem.W.mg_of X G cg2, cl_Book := cl2, mi_Book := cmi2, kc_Book := ckc2, ins_Book := ⟨cl2, cha2, zsp, ztk, cmo2, cme2⟩, na_Book__placed := cna2_0, na_Book__last := cna2_1, om_Book := om_Book, R_Clause := ⟨cvr_Clause, cvg_Clause⟩, V_Clause_LIMIT := ⟨_, cvf_Clause_LIMIT, ⟨_, rfl⟩⟩, R_Book := ⟨cvr_Book, cvg_Book⟩, V_Book_LIMIT := ⟨_, cvf_Book_LIMIT, ⟨_, rfl⟩⟩, V_Book_NAMES := ⟨_, cvf_Book_NAMES, ⟨_, rfl⟩⟩, V_Book_NUMBERS := ⟨_, cvf_Book_NUMBERS, ⟨_, rfl⟩⟩, f_is_name := f0, d_is_name := _, F_is_name := F0, b_is_name := b0, g_is_name := PySem.W.mg_of X G a0, f_is_literal := f1, d_is_literal := _, F_is_literal := F1, b_is_literal := b1, g_is_literal := PySem.W.mg_of X G a1, f_check_name := f2, d_check_name := _, F_check_name := F2, b_check_name := b2, g_check_name := PySem.W.mg_of X G a2, f_check_literal := f3, d_check_literal := _, F_check_literal := F3, b_check_literal := b3, g_check_literal := PySem.W.mg_of X G a3, f_name_of := f4, d_name_of := _, F_name_of := F4, b_name_of := b4, g_name_of := PySem.W.mg_of X G a4, f_is_positive := f5, d_is_positive := _, F_is_positive := F5, b_is_positive := b5, g_is_positive := PySem.W.mg_of X G a5, f_negated := f6, d_negated := _, F_negated := F6, b_negated := b6, g_negated := PySem.W.mg_of X G a6, f_both_signs := f7, d_both_signs := _, F_both_signs := F7, b_both_signs := b7, g_both_signs := PySem.W.mg_of X G a7, f_in_order := f8, d_in_order := _, F_in_order := F8, b_in_order := b8, g_in_order := PySem.W.mg_of X G a8, f_check_signs := f9, d_check_signs := _, F_check_signs := F9, b_check_signs := b9, g_check_signs := PySem.W.mg_of X G a9, f_needs := f10, d_needs := _, F_needs := F10, b_needs := b10, g_needs := PySem.W.mg_of X G a10, f_all_needs := f11, d_all_needs := _, F_all_needs := F11, b_all_needs := b11, g_all_needs := PySem.W.mg_of X G a11, f__arrivals := f12, d__arrivals := _, F__arrivals := F12, b__arrivals := b12, g__arrivals := PySem.W.mg_of X G a12, f_all_reached := f13, d_all_reached := _, F_all_reached := F13, b_all_reached := b13, g_all_reached := PySem.W.mg_of X G a13, f_chain := f14, d_chain := _, F_chain := F14, b_chain := b14, g_chain := PySem.W.mg_of X G a14, f_is_chain := f15, d_is_chain := _, F_is_chain := F15, b_is_chain := b15, g_is_chain := PySem.W.mg_of X G a15, m_Ring_init := a16, i_Ring_init := if16, f_Ring_init := f16, d_Ring_init := _, F_Ring_init := F16, b_Ring_init := b16, p_Ring_numbers := pp17, P_Ring_numbers := ⟨a17, pg17, pt17, ⟨_, pr17⟩⟩, f_Ring_numbers := f17, d_Ring_numbers := _, F_Ring_numbers := F17, b_Ring_numbers := b17, m_Ring_bars := a18, i_Ring_bars := if18, f_Ring_bars := f18, d_Ring_bars := _, F_Ring_bars := F18, b_Ring_bars := b18, f_ring_names := f19, d_ring_names := _, F_ring_names := F19, b_ring_names := b19, g_ring_names := PySem.W.mg_of X G a19, f_ring_at := f20, d_ring_at := _, F_ring_at := F20, b_ring_at := b20, g_ring_at := PySem.W.mg_of X G a20, f_first_ring := f21, d_first_ring := _, F_first_ring := F21, b_first_ring := b21, g_first_ring := PySem.W.mg_of X G a21, f_apart_rings := f22, d_apart_rings := _, F_apart_rings := F22, b_apart_rings := b22, g_apart_rings := PySem.W.mg_of X G a22, m_Clause_init := a23, i_Clause_init := if23, f_Clause_init := f23, d_Clause_init := _, F_Clause_init := F23, p_Clause_names := pp24, P_Clause_names := ⟨a24, pg24, pt24, ⟨_, pr24⟩⟩, f_Clause_names := f24, d_Clause_names := _, F_Clause_names := F24, b_Clause_names := b24, m_Clause_iter := a25, i_Clause_iter := if25, f_Clause_iter := f25, d_Clause_iter := _, F_Clause_iter := F25, b_Clause_iter := b25, m_Clause_contains := a26, i_Clause_contains := if26, f_Clause_contains := f26, d_Clause_contains := _, F_Clause_contains := F26, b_Clause_contains := b26, f_turned_literal := f27, d_turned_literal := _, F_turned_literal := F27, b_turned_literal := b27, g_turned_literal := PySem.W.mg_of X G a27, f_turned_clause := f28, d_turned_clause := _, F_turned_clause := F28, b_turned_clause := b28, g_turned_clause := PySem.W.mg_of X G a28, f__names_in := f29, d__names_in := _, F__names_in := F29, b__names_in := b29, g__names_in := PySem.W.mg_of X G a29, f__check_names := f30, d__check_names := _, F__check_names := F30, b__check_names := b30, g__check_names := PySem.W.mg_of X G a30, f__check_room := f31, d__check_room := _, F__check_room := F31, b__check_room := b31, g__check_room := PySem.W.mg_of X G a31, f__placed_from_one := f32, d__placed_from_one := _, F__placed_from_one := F32, b__placed_from_one := b32, g__placed_from_one := PySem.W.mg_of X G a32, f__all_turned := f33, d__all_turned := _, F__all_turned := F33, b__all_turned := b33, g__all_turned := PySem.W.mg_of X G a33, f_book_of := f34, d_book_of := _, F_book_of := F34, b_book_of := b34, g_book_of := PySem.W.mg_of X G a34, m_Book_init := a35, i_Book_init := if35, f_Book_init := f35, d_Book_init := _, F_Book_init := F35, p_Book_numbered := sp36, M_Book_numbered := ⟨sf36, ⟨_, sr36⟩, sk36⟩, f_Book_numbered := f36, d_Book_numbered := _, F_Book_numbered := F36, b_Book_numbered := b36, p_Book_names := pp37, P_Book_names := ⟨a37, pg37, pt37, ⟨_, pr37⟩⟩, f_Book_names := f37, d_Book_names := _, F_Book_names := F37, b_Book_names := b37, p_Book_next_number := pp38, P_Book_next_number := ⟨a38, pg38, pt38, ⟨_, pr38⟩⟩, f_Book_next_number := f38, d_Book_next_number := _, F_Book_next_number := F38, b_Book_next_number := b38, m_Book_put := a39, i_Book_put := if39, f_Book_put := f39, d_Book_put := _, F_Book_put := F39, b_Book_put := b39, m_Book_drop := a40, i_Book_drop := if40, f_Book_drop := f40, d_Book_drop := _, F_Book_drop := F40, b_Book_drop := b40, m_Book_copy := a41, i_Book_copy := if41, f_Book_copy := f41, d_Book_copy := _, F_Book_copy := F41, b_Book_copy := b41, m_Book_iter := a42, i_Book_iter := if42, f_Book_iter := f42, d_Book_iter := _, F_Book_iter := F42, b_Book_iter := b42, m_Book_len := a43, i_Book_len := if43, f_Book_len := f43, d_Book_len := _, F_Book_len := F43, b_Book_len := b43, m_Book_contains := a44, i_Book_contains := if44, f_Book_contains := f44, d_Book_contains := _, F_Book_contains := F44, b_Book_contains := b44, m_Book_getitem := a45, i_Book_getitem := if45, f_Book_getitem := f45, d_Book_getitem := _, F_Book_getitem := F45, b_Book_getitem := b45, m_Book_setitem := a46, i_Book_setitem := if46, f_Book_setitem := f46, d_Book_setitem := _, F_Book_setitem := F46, b_Book_setitem := b46, f__law_source := f47, d__law_source := _, F__law_source := F47, b__law_source := b47, g__law_source := PySem.W.mg_of X G a47, f__law_take := f48, d__law_take := _, F__law_take := F48, b__law_take := b48, g__law_take := PySem.W.mg_of X G a48, f__law_word := f49, d__law_word := _, F__law_word := F49, b__law_word := b49, g__law_word := PySem.W.mg_of X G a49, f__law_names := f50, d__law_names := _, F__law_names := F50, b__law_names := b50, g__law_names := PySem.W.mg_of X G a50, f__law_flip := f51, d__law_flip := _, F__law_flip := F51, b__law_flip := b51, g__law_flip := PySem.W.mg_of X G a51, f__law_name := f52, d__law_name := _, F__law_name := F52, b__law_name := b52, g__law_name := PySem.W.mg_of X G a52, f__law_sorted := f53, d__law_sorted := _, F__law_sorted := F53, b__law_sorted := b53, g__law_sorted := PySem.W.mg_of X G a53, f__law_same := f54, d__law_same := _, F__law_same := F54, b__law_same := b54, g__law_same := PySem.W.mg_of X G a54, f__law_row := f55, d__law_row := _, F__law_row := F55, b__law_row := b55, g__law_row := PySem.W.mg_of X G a55, f__law_knot := f56, d__law_knot := _, F__law_knot := F56, b__law_knot := b56, g__law_knot := PySem.W.mg_of X G a56, f__law_clause := f57, d__law_clause := _, F__law_clause := F57, b__law_clause := b57, g__law_clause := PySem.W.mg_of X G a57, f__law_numbers := f58, d__law_numbers := _, F__law_numbers := F58, b__law_numbers := b58, g__law_numbers := PySem.W.mg_of X G a58, f__law_book := f59, d__law_book := _, F__law_book := F59, b__law_book := b59, g__law_book := PySem.W.mg_of X G a59, f__law_names_in := f60, d__law_names_in := _, F__law_names_in := F60, b__law_names_in := b60, g__law_names_in := PySem.W.mg_of X G a60, f__law_reach := f61, d__law_reach := _, F__law_reach := F61, b__law_reach := b61, g__law_reach := PySem.W.mg_of X G a61, f__law_rings := f62, d__law_rings := _, F__law_rings := F62, b__law_rings := b62, g__law_rings := PySem.W.mg_of X G a62, f__law_is_link := f63, d__law_is_link := _, F__law_is_link := F63, b__law_is_link := b63, g__law_is_link := PySem.W.mg_of X G a63, f__law_is_chain := f64, d__law_is_chain := _, F__law_is_chain := F64, b__law_is_chain := b64, g__law_is_chain := PySem.W.mg_of X G a64, f__law_loop := f65, d__law_loop := _, F__law_loop := F65, b__law_loop := b65, g__law_loop := PySem.W.mg_of X G a65, f__law_numbers_of := f66, d__law_numbers_of := _, F__law_numbers_of := F66, b__law_numbers_of := b66, g__law_numbers_of := PySem.W.mg_of X G a66, f__law_ring_holds := f67, d__law_ring_holds := _, F__law_ring_holds := F67, b__law_ring_holds := b67, g__law_ring_holds := PySem.W.mg_of X G a67, f__law_knots := f68, d__law_knots := _, F__law_knots := F68, b__law_knots := b68, g__law_knots := PySem.W.mg_of X G a68, f__law_world := f69, d__law_world := _, F__law_world := F69, b__law_world := b69, g__law_world := PySem.W.mg_of X G a69, f__law_ring := f70, d__law_ring := _, F__law_ring := F70, b__law_ring := b70, g__law_ring := PySem.W.mg_of X G a70, f__law_apart := f71, d__law_apart := _, F__law_apart := F71, b__law_apart := b71, g__law_apart := PySem.W.mg_of X G a71, f_law := fa, d_law := _, F_law := F72, b_law := b72, g_law := PySem.W.mg_of X G a72, t_LETTERS := tk0, v_LETTERS := PySem.W.mg_of X G v0, t_LETTERS_AND_DIGITS := tk1, v_LETTERS_AND_DIGITS := PySem.W.mg_of X G v1, t_LONGEST_NAME := tk2, v_LONGEST_NAME := PySem.W.mg_of X G v2, C_HornError := C_HornError, g_HornError := PySem.W.mg_of X G eg0, C_BadName := C_BadName, i_BadName := i_BadName, E_BadName := E_BadName, x_BadName := X_BadName, o_BadName := efn1, C_BadLiteral := C_BadLiteral, i_BadLiteral := i_BadLiteral, E_BadLiteral := E_BadLiteral, x_BadLiteral := X_BadLiteral, o_BadLiteral := efn2, C_BothSigns := C_BothSigns, i_BothSigns := i_BothSigns, E_BothSigns := E_BothSigns, x_BothSigns := X_BothSigns, o_BothSigns := efn3, C_TooMany := C_TooMany, i_TooMany := i_TooMany, E_TooMany := E_TooMany, x_TooMany := X_TooMany, o_TooMany := efn4, C_NoClause := C_NoClause, i_NoClause := i_NoClause, E_NoClause := E_NoClause, x_NoClause := X_NoClause, o_NoClause := efn5, C_BadNumber := C_BadNumber, i_BadNumber := i_BadNumber, E_BadNumber := E_BadNumber, x_BadNumber := X_BadNumber, o_BadNumber := efn6, n_NotImplemented := PySem.W.mg_none_of X G z0, n_ValueError := PySem.W.mg_none_of X G z1, n_all := PySem.W.mg_none_of X G z2, n_any := PySem.W.mg_none_of X G z3, n_bool := PySem.W.mg_none_of X G z4, n_classmethod := PySem.W.mg_none_of X G z5, n_enumerate := PySem.W.mg_none_of X G z6, n_int := PySem.W.mg_none_of X G z7, n_isinstance := PySem.W.mg_none_of X G z8, n_iter := PySem.W.mg_none_of X G z9, n_len := PySem.W.mg_none_of X G z10, n_list := PySem.W.mg_none_of X G z11, n_property := PySem.W.mg_none_of X G z12, n_range := PySem.W.mg_none_of X G z13, n_set := PySem.W.mg_none_of X G z14, n_sorted := PySem.W.mg_none_of X G z15, n_str := PySem.W.mg_none_of X G z16, n_super := PySem.W.mg_none_of X G zsu, n_tuple := PySem.W.mg_none_of X G z18 }
  exact ⟨PySem.W.fnOf "law" "law" (defArgs s_law) (defBody s_law) (defScope s_law) .none kV72 dc72 pm72 an72 cd72 ct72, fun s v => .of_eq rfl, fun base _ _ => ok_law T⟩
section
open PySem PySem.W PySem.Calls
abbrev HKR : OpenRow := OpenLaw.row PySem.Challenge.rw_renamedhorn_k29_rings_apart
def hchk0 (K : PySem.W.Frag) : Bool := (decide (PySem.W.nsIn K mainGlobals "Ring" = some (some (.ref (He.ga K "Ring"))))) && ((PySem.W.plainGet K (He.ga K "Ring") Str.empty) && ((PySem.W.hasDictIn K (He.ga K "Ring")) && ((PySem.W.plainOver K (He.ga K "Ring")) && ((decide (PySem.W.findIn K (.ref (He.ga K "Ring")) "__setattr__" = some (some (.builtin "object.__setattr__")))) && ((PySem.W.makesIn K (He.ga K "Ring")) && ((PySem.W.keepIn K (.ref (He.ga K "Ring"))) && ((decide (PySem.W.findIn K (.ref (He.ga K "Ring")) "__class__" = some (some (.builtin "object.__class__")))) && ((decide (PySem.W.mroIn K (He.ga K "Ring") (.type "object") = some true)) && ((decide (PySem.W.kitOne K (.ref (He.ga K "Ring")) (.ref (He.ga K "Ring")) = some true)) && ((decide (PySem.W.findIn K (.ref (He.ga K "Ring")) "name" = some none)) && ((decide (PySem.W.findIn K (.ref (He.ga K "Ring")) "there" = some none)) && ((decide (PySem.W.findIn K (.ref (He.ga K "Ring")) "back" = some none)) && ((decide (PySem.W.nsIn K mainGlobals "Clause" = some (some (.ref (He.ga K "Clause"))))) && ((PySem.W.plainGet K (He.ga K "Clause") Str.empty) && ((PySem.W.hasDictIn K (He.ga K "Clause")) && ((PySem.W.plainOver K (He.ga K "Clause")) && ((decide (PySem.W.findIn K (.ref (He.ga K "Clause")) "__setattr__" = some (some (.builtin "object.__setattr__")))) && ((PySem.W.makesIn K (He.ga K "Clause")) && ((PySem.W.keepIn K (.ref (He.ga K "Clause"))) && ((decide (PySem.W.findIn K (.ref (He.ga K "Clause")) "__class__" = some (some (.builtin "object.__class__")))) && ((decide (PySem.W.mroIn K (He.ga K "Clause") (.type "object") = some true)) && ((decide (PySem.W.kitOne K (.ref (He.ga K "Clause")) (.ref (He.ga K "Clause")) = some true)) && ((decide (PySem.W.findIn K (.ref (He.ga K "Clause")) "literals" = some none)) && (decide (PySem.W.nsIn K mainGlobals "Book" = some (some (.ref (He.ga K "Book"))))))))))))))))))))))))))))
def hchk1 (K : PySem.W.Frag) : Bool := (PySem.W.plainGet K (He.ga K "Book") Str.empty) && ((PySem.W.hasDictIn K (He.ga K "Book")) && ((PySem.W.plainOver K (He.ga K "Book")) && ((decide (PySem.W.findIn K (.ref (He.ga K "Book")) "__setattr__" = some (some (.builtin "object.__setattr__")))) && ((PySem.W.makesIn K (He.ga K "Book")) && ((PySem.W.keepIn K (.ref (He.ga K "Book"))) && ((decide (PySem.W.findIn K (.ref (He.ga K "Book")) "__class__" = some (some (.builtin "object.__class__")))) && ((decide (PySem.W.mroIn K (He.ga K "Book") (.type "object") = some true)) && ((decide (PySem.W.kitOne K (.ref (He.ga K "Book")) (.ref (He.ga K "Book")) = some true)) && ((decide (PySem.W.findIn K (.ref (He.ga K "Book")) "_placed" = some none)) && ((decide (PySem.W.findIn K (.ref (He.ga K "Book")) "_last" = some none)) && ((mro2 K (He.ga K "Book")) && ((PySem.W.readsIn K (He.ga K "Clause") (.type "type")) && ((decide (PySem.W.specialIn K (.ref (He.ga K "Clause")) "__getattribute__" = some (some (.builtin "type.__getattribute__")))) && ((Hk.ib K (He.ga K "Clause") "LIMIT" 6) && ((PySem.W.readsIn K (He.ga K "Book") (.type "type")) && ((decide (PySem.W.specialIn K (.ref (He.ga K "Book")) "__getattribute__" = some (some (.builtin "type.__getattribute__")))) && ((Hk.ib K (He.ga K "Book") "LIMIT" 24) && ((Hk.ib K (He.ga K "Book") "NAMES" 12) && ((Hk.ib K (He.ga K "Book") "NUMBERS" 999) && ((decide (PySem.W.nsIn K mainGlobals "is_name" = some (some (.ref (He.ga K "is_name"))))) && ((Hk.fb K (He.ga K "is_name") "is_name") && ((PySem.W.keepIn K (.ref (He.ga K "is_name"))) && ((decide (PySem.W.nsIn K mainGlobals "is_literal" = some (some (.ref (He.ga K "is_literal"))))) && (Hk.fb K (He.ga K "is_literal") "is_literal"))))))))))))))))))))))))
def hchk2 (K : PySem.W.Frag) : Bool := (PySem.W.keepIn K (.ref (He.ga K "is_literal"))) && ((decide (PySem.W.nsIn K mainGlobals "check_name" = some (some (.ref (He.ga K "check_name"))))) && ((Hk.fb K (He.ga K "check_name") "check_name") && ((PySem.W.keepIn K (.ref (He.ga K "check_name"))) && ((decide (PySem.W.nsIn K mainGlobals "check_literal" = some (some (.ref (He.ga K "check_literal"))))) && ((Hk.fb K (He.ga K "check_literal") "check_literal") && ((PySem.W.keepIn K (.ref (He.ga K "check_literal"))) && ((decide (PySem.W.nsIn K mainGlobals "name_of" = some (some (.ref (He.ga K "name_of"))))) && ((Hk.fb K (He.ga K "name_of") "name_of") && ((PySem.W.keepIn K (.ref (He.ga K "name_of"))) && ((decide (PySem.W.nsIn K mainGlobals "is_positive" = some (some (.ref (He.ga K "is_positive"))))) && ((Hk.fb K (He.ga K "is_positive") "is_positive") && ((PySem.W.keepIn K (.ref (He.ga K "is_positive"))) && ((decide (PySem.W.nsIn K mainGlobals "negated" = some (some (.ref (He.ga K "negated"))))) && ((Hk.fb K (He.ga K "negated") "negated") && ((PySem.W.keepIn K (.ref (He.ga K "negated"))) && ((decide (PySem.W.nsIn K mainGlobals "both_signs" = some (some (.ref (He.ga K "both_signs"))))) && ((Hk.fb K (He.ga K "both_signs") "both_signs") && ((PySem.W.keepIn K (.ref (He.ga K "both_signs"))) && ((decide (PySem.W.nsIn K mainGlobals "in_order" = some (some (.ref (He.ga K "in_order"))))) && ((Hk.fb K (He.ga K "in_order") "in_order") && ((PySem.W.keepIn K (.ref (He.ga K "in_order"))) && ((decide (PySem.W.nsIn K mainGlobals "check_signs" = some (some (.ref (He.ga K "check_signs"))))) && ((Hk.fb K (He.ga K "check_signs") "check_signs") && (PySem.W.keepIn K (.ref (He.ga K "check_signs"))))))))))))))))))))))))))
def hchk3 (K : PySem.W.Frag) : Bool := (decide (PySem.W.nsIn K mainGlobals "needs" = some (some (.ref (He.ga K "needs"))))) && ((Hk.fb K (He.ga K "needs") "needs") && ((PySem.W.keepIn K (.ref (He.ga K "needs"))) && ((decide (PySem.W.nsIn K mainGlobals "all_needs" = some (some (.ref (He.ga K "all_needs"))))) && ((Hk.fb K (He.ga K "all_needs") "all_needs") && ((PySem.W.keepIn K (.ref (He.ga K "all_needs"))) && ((decide (PySem.W.nsIn K mainGlobals "_arrivals" = some (some (.ref (He.ga K "_arrivals"))))) && ((Hk.fb K (He.ga K "_arrivals") "_arrivals") && ((PySem.W.keepIn K (.ref (He.ga K "_arrivals"))) && ((decide (PySem.W.nsIn K mainGlobals "all_reached" = some (some (.ref (He.ga K "all_reached"))))) && ((Hk.fb K (He.ga K "all_reached") "all_reached") && ((PySem.W.keepIn K (.ref (He.ga K "all_reached"))) && ((decide (PySem.W.nsIn K mainGlobals "chain" = some (some (.ref (He.ga K "chain"))))) && ((Hk.fb K (He.ga K "chain") "chain") && ((PySem.W.keepIn K (.ref (He.ga K "chain"))) && ((decide (PySem.W.nsIn K mainGlobals "is_chain" = some (some (.ref (He.ga K "is_chain"))))) && ((Hk.fb K (He.ga K "is_chain") "is_chain") && ((PySem.W.keepIn K (.ref (He.ga K "is_chain"))) && ((decide (PySem.W.findIn K (.ref (He.ga K "Ring")) "__init__" = some (some (.ref (He.ma K (He.ga K "Ring") "__init__"))))) && ((Hk.fb K (He.ma K (He.ga K "Ring") "__init__") "Ring.__init__") && ((PySem.W.isFn K (.ref (He.ma K (He.ga K "Ring") "__init__"))) && ((PySem.W.keepIn K (.ref (He.ma K (He.ga K "Ring") "__init__"))) && ((decide (PySem.W.findIn K (.ref (He.ga K "Ring")) "numbers" = some (some (.ref (He.ma K (He.ga K "Ring") "numbers"))))) && ((Hk.pb K (He.ma K (He.ga K "Ring") "numbers") "property") && (decide (PySem.W.specialIn K (.ref (He.ma K (He.ga K "Ring") "numbers")) "__get__" = some (some (.builtin "property.__get__")))))))))))))))))))))))))))
def hchk4 (K : PySem.W.Frag) : Bool := (decide (PySem.W.takesIn K (.ref (He.ma K (He.ga K "Ring") "numbers")) = some true)) && ((Hk.fb K (Hk.pa K (He.ma K (He.ga K "Ring") "numbers") "property") "Ring.numbers") && ((PySem.W.keepIn K (.ref (Hk.pa K (He.ma K (He.ga K "Ring") "numbers") "property"))) && ((decide (PySem.W.findIn K (.ref (He.ga K "Ring")) "bars" = some (some (.ref (He.ma K (He.ga K "Ring") "bars"))))) && ((Hk.fb K (He.ma K (He.ga K "Ring") "bars") "Ring.bars") && ((PySem.W.isFn K (.ref (He.ma K (He.ga K "Ring") "bars"))) && ((PySem.W.keepIn K (.ref (He.ma K (He.ga K "Ring") "bars"))) && ((decide (PySem.W.nsIn K mainGlobals "ring_names" = some (some (.ref (He.ga K "ring_names"))))) && ((Hk.fb K (He.ga K "ring_names") "ring_names") && ((PySem.W.keepIn K (.ref (He.ga K "ring_names"))) && ((decide (PySem.W.nsIn K mainGlobals "ring_at" = some (some (.ref (He.ga K "ring_at"))))) && ((Hk.fb K (He.ga K "ring_at") "ring_at") && ((PySem.W.keepIn K (.ref (He.ga K "ring_at"))) && ((decide (PySem.W.nsIn K mainGlobals "first_ring" = some (some (.ref (He.ga K "first_ring"))))) && ((Hk.fb K (He.ga K "first_ring") "first_ring") && ((PySem.W.keepIn K (.ref (He.ga K "first_ring"))) && ((decide (PySem.W.nsIn K mainGlobals "apart_rings" = some (some (.ref (He.ga K "apart_rings"))))) && ((Hk.fb K (He.ga K "apart_rings") "apart_rings") && ((PySem.W.keepIn K (.ref (He.ga K "apart_rings"))) && ((decide (PySem.W.findIn K (.ref (He.ga K "Clause")) "__init__" = some (some (.ref (He.ma K (He.ga K "Clause") "__init__"))))) && ((Hk.fb K (He.ma K (He.ga K "Clause") "__init__") "Clause.__init__") && ((PySem.W.isFn K (.ref (He.ma K (He.ga K "Clause") "__init__"))) && ((PySem.W.keepIn K (.ref (He.ma K (He.ga K "Clause") "__init__"))) && ((decide (PySem.W.findIn K (.ref (He.ga K "Clause")) "names" = some (some (.ref (He.ma K (He.ga K "Clause") "names"))))) && (Hk.pb K (He.ma K (He.ga K "Clause") "names") "property"))))))))))))))))))))))))
def hchk5 (K : PySem.W.Frag) : Bool := (decide (PySem.W.specialIn K (.ref (He.ma K (He.ga K "Clause") "names")) "__get__" = some (some (.builtin "property.__get__")))) && ((decide (PySem.W.takesIn K (.ref (He.ma K (He.ga K "Clause") "names")) = some true)) && ((Hk.fb K (Hk.pa K (He.ma K (He.ga K "Clause") "names") "property") "Clause.names") && ((PySem.W.keepIn K (.ref (Hk.pa K (He.ma K (He.ga K "Clause") "names") "property"))) && ((decide (PySem.W.findIn K (.ref (He.ga K "Clause")) "__iter__" = some (some (.ref (He.ma K (He.ga K "Clause") "__iter__"))))) && ((Hk.fb K (He.ma K (He.ga K "Clause") "__iter__") "Clause.__iter__") && ((PySem.W.isFn K (.ref (He.ma K (He.ga K "Clause") "__iter__"))) && ((PySem.W.keepIn K (.ref (He.ma K (He.ga K "Clause") "__iter__"))) && ((decide (PySem.W.findIn K (.ref (He.ga K "Clause")) "__contains__" = some (some (.ref (He.ma K (He.ga K "Clause") "__contains__"))))) && ((Hk.fb K (He.ma K (He.ga K "Clause") "__contains__") "Clause.__contains__") && ((PySem.W.isFn K (.ref (He.ma K (He.ga K "Clause") "__contains__"))) && ((PySem.W.keepIn K (.ref (He.ma K (He.ga K "Clause") "__contains__"))) && ((decide (PySem.W.nsIn K mainGlobals "turned_literal" = some (some (.ref (He.ga K "turned_literal"))))) && ((Hk.fb K (He.ga K "turned_literal") "turned_literal") && ((PySem.W.keepIn K (.ref (He.ga K "turned_literal"))) && ((decide (PySem.W.nsIn K mainGlobals "turned_clause" = some (some (.ref (He.ga K "turned_clause"))))) && ((Hk.fb K (He.ga K "turned_clause") "turned_clause") && ((PySem.W.keepIn K (.ref (He.ga K "turned_clause"))) && ((decide (PySem.W.nsIn K mainGlobals "_names_in" = some (some (.ref (He.ga K "_names_in"))))) && ((Hk.fb K (He.ga K "_names_in") "_names_in") && ((PySem.W.keepIn K (.ref (He.ga K "_names_in"))) && ((decide (PySem.W.nsIn K mainGlobals "_check_names" = some (some (.ref (He.ga K "_check_names"))))) && ((Hk.fb K (He.ga K "_check_names") "_check_names") && ((PySem.W.keepIn K (.ref (He.ga K "_check_names"))) && (decide (PySem.W.nsIn K mainGlobals "_check_room" = some (some (.ref (He.ga K "_check_room"))))))))))))))))))))))))))))
def hchk6 (K : PySem.W.Frag) : Bool := (Hk.fb K (He.ga K "_check_room") "_check_room") && ((PySem.W.keepIn K (.ref (He.ga K "_check_room"))) && ((decide (PySem.W.nsIn K mainGlobals "_placed_from_one" = some (some (.ref (He.ga K "_placed_from_one"))))) && ((Hk.fb K (He.ga K "_placed_from_one") "_placed_from_one") && ((PySem.W.keepIn K (.ref (He.ga K "_placed_from_one"))) && ((decide (PySem.W.nsIn K mainGlobals "_all_turned" = some (some (.ref (He.ga K "_all_turned"))))) && ((Hk.fb K (He.ga K "_all_turned") "_all_turned") && ((PySem.W.keepIn K (.ref (He.ga K "_all_turned"))) && ((decide (PySem.W.nsIn K mainGlobals "book_of" = some (some (.ref (He.ga K "book_of"))))) && ((Hk.fb K (He.ga K "book_of") "book_of") && ((PySem.W.keepIn K (.ref (He.ga K "book_of"))) && ((decide (PySem.W.findIn K (.ref (He.ga K "Book")) "__init__" = some (some (.ref (He.ma K (He.ga K "Book") "__init__"))))) && ((Hk.fb K (He.ma K (He.ga K "Book") "__init__") "Book.__init__") && ((PySem.W.isFn K (.ref (He.ma K (He.ga K "Book") "__init__"))) && ((PySem.W.keepIn K (.ref (He.ma K (He.ga K "Book") "__init__"))) && ((decide (PySem.W.findIn K (.ref (He.ga K "Book")) "numbered" = some (some (.ref (He.ma K (He.ga K "Book") "numbered"))))) && ((Hk.pb K (He.ma K (He.ga K "Book") "numbered") "classmethod") && ((Hk.gb K (He.ga K "Book") "numbered" "classmethod.__get__" (He.ma K (He.ga K "Book") "numbered")) && ((Hk.fb K (Hk.pa K (He.ma K (He.ga K "Book") "numbered") "classmethod") "Book.numbered") && ((PySem.W.fnIn K (Hk.pa K (He.ma K (He.ga K "Book") "numbered") "classmethod")) && ((PySem.W.keepIn K (.ref (Hk.pa K (He.ma K (He.ga K "Book") "numbered") "classmethod"))) && ((decide (PySem.W.findIn K (.ref (He.ga K "Book")) "names" = some (some (.ref (He.ma K (He.ga K "Book") "names"))))) && ((Hk.pb K (He.ma K (He.ga K "Book") "names") "property") && ((decide (PySem.W.specialIn K (.ref (He.ma K (He.ga K "Book") "names")) "__get__" = some (some (.builtin "property.__get__")))) && (decide (PySem.W.takesIn K (.ref (He.ma K (He.ga K "Book") "names")) = some true)))))))))))))))))))))))))
def hchk7 (K : PySem.W.Frag) : Bool := (Hk.fb K (Hk.pa K (He.ma K (He.ga K "Book") "names") "property") "Book.names") && ((PySem.W.keepIn K (.ref (Hk.pa K (He.ma K (He.ga K "Book") "names") "property"))) && ((decide (PySem.W.findIn K (.ref (He.ga K "Book")) "next_number" = some (some (.ref (He.ma K (He.ga K "Book") "next_number"))))) && ((Hk.pb K (He.ma K (He.ga K "Book") "next_number") "property") && ((decide (PySem.W.specialIn K (.ref (He.ma K (He.ga K "Book") "next_number")) "__get__" = some (some (.builtin "property.__get__")))) && ((decide (PySem.W.takesIn K (.ref (He.ma K (He.ga K "Book") "next_number")) = some true)) && ((Hk.fb K (Hk.pa K (He.ma K (He.ga K "Book") "next_number") "property") "Book.next_number") && ((PySem.W.keepIn K (.ref (Hk.pa K (He.ma K (He.ga K "Book") "next_number") "property"))) && ((decide (PySem.W.findIn K (.ref (He.ga K "Book")) "put" = some (some (.ref (He.ma K (He.ga K "Book") "put"))))) && ((Hk.fb K (He.ma K (He.ga K "Book") "put") "Book.put") && ((PySem.W.isFn K (.ref (He.ma K (He.ga K "Book") "put"))) && ((PySem.W.keepIn K (.ref (He.ma K (He.ga K "Book") "put"))) && ((decide (PySem.W.findIn K (.ref (He.ga K "Book")) "drop" = some (some (.ref (He.ma K (He.ga K "Book") "drop"))))) && ((Hk.fb K (He.ma K (He.ga K "Book") "drop") "Book.drop") && ((PySem.W.isFn K (.ref (He.ma K (He.ga K "Book") "drop"))) && ((PySem.W.keepIn K (.ref (He.ma K (He.ga K "Book") "drop"))) && ((decide (PySem.W.findIn K (.ref (He.ga K "Book")) "copy" = some (some (.ref (He.ma K (He.ga K "Book") "copy"))))) && ((Hk.fb K (He.ma K (He.ga K "Book") "copy") "Book.copy") && ((PySem.W.isFn K (.ref (He.ma K (He.ga K "Book") "copy"))) && ((PySem.W.keepIn K (.ref (He.ma K (He.ga K "Book") "copy"))) && ((decide (PySem.W.findIn K (.ref (He.ga K "Book")) "__iter__" = some (some (.ref (He.ma K (He.ga K "Book") "__iter__"))))) && ((Hk.fb K (He.ma K (He.ga K "Book") "__iter__") "Book.__iter__") && ((PySem.W.isFn K (.ref (He.ma K (He.ga K "Book") "__iter__"))) && ((PySem.W.keepIn K (.ref (He.ma K (He.ga K "Book") "__iter__"))) && (decide (PySem.W.findIn K (.ref (He.ga K "Book")) "__len__" = some (some (.ref (He.ma K (He.ga K "Book") "__len__"))))))))))))))))))))))))))))
def hchk8 (K : PySem.W.Frag) : Bool := (Hk.fb K (He.ma K (He.ga K "Book") "__len__") "Book.__len__") && ((PySem.W.isFn K (.ref (He.ma K (He.ga K "Book") "__len__"))) && ((PySem.W.keepIn K (.ref (He.ma K (He.ga K "Book") "__len__"))) && ((decide (PySem.W.findIn K (.ref (He.ga K "Book")) "__contains__" = some (some (.ref (He.ma K (He.ga K "Book") "__contains__"))))) && ((Hk.fb K (He.ma K (He.ga K "Book") "__contains__") "Book.__contains__") && ((PySem.W.isFn K (.ref (He.ma K (He.ga K "Book") "__contains__"))) && ((PySem.W.keepIn K (.ref (He.ma K (He.ga K "Book") "__contains__"))) && ((decide (PySem.W.findIn K (.ref (He.ga K "Book")) "__getitem__" = some (some (.ref (He.ma K (He.ga K "Book") "__getitem__"))))) && ((Hk.fb K (He.ma K (He.ga K "Book") "__getitem__") "Book.__getitem__") && ((PySem.W.isFn K (.ref (He.ma K (He.ga K "Book") "__getitem__"))) && ((PySem.W.keepIn K (.ref (He.ma K (He.ga K "Book") "__getitem__"))) && ((decide (PySem.W.findIn K (.ref (He.ga K "Book")) "__setitem__" = some (some (.ref (He.ma K (He.ga K "Book") "__setitem__"))))) && ((Hk.fb K (He.ma K (He.ga K "Book") "__setitem__") "Book.__setitem__") && ((PySem.W.isFn K (.ref (He.ma K (He.ga K "Book") "__setitem__"))) && ((PySem.W.keepIn K (.ref (He.ma K (He.ga K "Book") "__setitem__"))) && ((decide (PySem.W.nsIn K mainGlobals "_law_source" = some (some (.ref (He.ga K "_law_source"))))) && ((Hk.fb K (He.ga K "_law_source") "_law_source") && ((PySem.W.keepIn K (.ref (He.ga K "_law_source"))) && ((decide (PySem.W.nsIn K mainGlobals "_law_take" = some (some (.ref (He.ga K "_law_take"))))) && ((Hk.fb K (He.ga K "_law_take") "_law_take") && ((PySem.W.keepIn K (.ref (He.ga K "_law_take"))) && ((decide (PySem.W.nsIn K mainGlobals "_law_word" = some (some (.ref (He.ga K "_law_word"))))) && ((Hk.fb K (He.ga K "_law_word") "_law_word") && ((PySem.W.keepIn K (.ref (He.ga K "_law_word"))) && (decide (PySem.W.nsIn K mainGlobals "_law_names" = some (some (.ref (He.ga K "_law_names"))))))))))))))))))))))))))))
def hchk9 (K : PySem.W.Frag) : Bool := (Hk.fb K (He.ga K "_law_names") "_law_names") && ((PySem.W.keepIn K (.ref (He.ga K "_law_names"))) && ((decide (PySem.W.nsIn K mainGlobals "_law_flip" = some (some (.ref (He.ga K "_law_flip"))))) && ((Hk.fb K (He.ga K "_law_flip") "_law_flip") && ((PySem.W.keepIn K (.ref (He.ga K "_law_flip"))) && ((decide (PySem.W.nsIn K mainGlobals "_law_name" = some (some (.ref (He.ga K "_law_name"))))) && ((Hk.fb K (He.ga K "_law_name") "_law_name") && ((PySem.W.keepIn K (.ref (He.ga K "_law_name"))) && ((decide (PySem.W.nsIn K mainGlobals "_law_sorted" = some (some (.ref (He.ga K "_law_sorted"))))) && ((Hk.fb K (He.ga K "_law_sorted") "_law_sorted") && ((PySem.W.keepIn K (.ref (He.ga K "_law_sorted"))) && ((decide (PySem.W.nsIn K mainGlobals "_law_same" = some (some (.ref (He.ga K "_law_same"))))) && ((Hk.fb K (He.ga K "_law_same") "_law_same") && ((PySem.W.keepIn K (.ref (He.ga K "_law_same"))) && ((decide (PySem.W.nsIn K mainGlobals "_law_row" = some (some (.ref (He.ga K "_law_row"))))) && ((Hk.fb K (He.ga K "_law_row") "_law_row") && ((PySem.W.keepIn K (.ref (He.ga K "_law_row"))) && ((decide (PySem.W.nsIn K mainGlobals "_law_knot" = some (some (.ref (He.ga K "_law_knot"))))) && ((Hk.fb K (He.ga K "_law_knot") "_law_knot") && ((PySem.W.keepIn K (.ref (He.ga K "_law_knot"))) && ((decide (PySem.W.nsIn K mainGlobals "_law_clause" = some (some (.ref (He.ga K "_law_clause"))))) && ((Hk.fb K (He.ga K "_law_clause") "_law_clause") && ((PySem.W.keepIn K (.ref (He.ga K "_law_clause"))) && ((decide (PySem.W.nsIn K mainGlobals "_law_numbers" = some (some (.ref (He.ga K "_law_numbers"))))) && (Hk.fb K (He.ga K "_law_numbers") "_law_numbers"))))))))))))))))))))))))
def hchk10 (K : PySem.W.Frag) : Bool := (PySem.W.keepIn K (.ref (He.ga K "_law_numbers"))) && ((decide (PySem.W.nsIn K mainGlobals "_law_book" = some (some (.ref (He.ga K "_law_book"))))) && ((Hk.fb K (He.ga K "_law_book") "_law_book") && ((PySem.W.keepIn K (.ref (He.ga K "_law_book"))) && ((decide (PySem.W.nsIn K mainGlobals "_law_names_in" = some (some (.ref (He.ga K "_law_names_in"))))) && ((Hk.fb K (He.ga K "_law_names_in") "_law_names_in") && ((PySem.W.keepIn K (.ref (He.ga K "_law_names_in"))) && ((decide (PySem.W.nsIn K mainGlobals "_law_reach" = some (some (.ref (He.ga K "_law_reach"))))) && ((Hk.fb K (He.ga K "_law_reach") "_law_reach") && ((PySem.W.keepIn K (.ref (He.ga K "_law_reach"))) && ((decide (PySem.W.nsIn K mainGlobals "_law_rings" = some (some (.ref (He.ga K "_law_rings"))))) && ((Hk.fb K (He.ga K "_law_rings") "_law_rings") && ((PySem.W.keepIn K (.ref (He.ga K "_law_rings"))) && ((decide (PySem.W.nsIn K mainGlobals "_law_is_link" = some (some (.ref (He.ga K "_law_is_link"))))) && ((Hk.fb K (He.ga K "_law_is_link") "_law_is_link") && ((PySem.W.keepIn K (.ref (He.ga K "_law_is_link"))) && ((decide (PySem.W.nsIn K mainGlobals "_law_is_chain" = some (some (.ref (He.ga K "_law_is_chain"))))) && ((Hk.fb K (He.ga K "_law_is_chain") "_law_is_chain") && ((PySem.W.keepIn K (.ref (He.ga K "_law_is_chain"))) && ((decide (PySem.W.nsIn K mainGlobals "_law_loop" = some (some (.ref (He.ga K "_law_loop"))))) && ((Hk.fb K (He.ga K "_law_loop") "_law_loop") && ((PySem.W.keepIn K (.ref (He.ga K "_law_loop"))) && ((decide (PySem.W.nsIn K mainGlobals "_law_numbers_of" = some (some (.ref (He.ga K "_law_numbers_of"))))) && ((Hk.fb K (He.ga K "_law_numbers_of") "_law_numbers_of") && (PySem.W.keepIn K (.ref (He.ga K "_law_numbers_of"))))))))))))))))))))))))))
def hchk11 (K : PySem.W.Frag) : Bool := (decide (PySem.W.nsIn K mainGlobals "_law_ring_holds" = some (some (.ref (He.ga K "_law_ring_holds"))))) && ((Hk.fb K (He.ga K "_law_ring_holds") "_law_ring_holds") && ((PySem.W.keepIn K (.ref (He.ga K "_law_ring_holds"))) && ((decide (PySem.W.nsIn K mainGlobals "_law_knots" = some (some (.ref (He.ga K "_law_knots"))))) && ((Hk.fb K (He.ga K "_law_knots") "_law_knots") && ((PySem.W.keepIn K (.ref (He.ga K "_law_knots"))) && ((decide (PySem.W.nsIn K mainGlobals "_law_world" = some (some (.ref (He.ga K "_law_world"))))) && ((Hk.fb K (He.ga K "_law_world") "_law_world") && ((PySem.W.keepIn K (.ref (He.ga K "_law_world"))) && ((decide (PySem.W.nsIn K mainGlobals "_law_ring" = some (some (.ref (He.ga K "_law_ring"))))) && ((Hk.fb K (He.ga K "_law_ring") "_law_ring") && ((PySem.W.keepIn K (.ref (He.ga K "_law_ring"))) && ((decide (PySem.W.nsIn K mainGlobals "_law_apart" = some (some (.ref (He.ga K "_law_apart"))))) && ((Hk.fb K (He.ga K "_law_apart") "_law_apart") && ((PySem.W.keepIn K (.ref (He.ga K "_law_apart"))) && ((decide (PySem.W.nsIn K mainGlobals "law" = some (some (.ref (He.ga K "law"))))) && ((Hk.fb K (He.ga K "law") "law") && ((PySem.W.keepIn K (.ref (He.ga K "law"))) && ((Hk.sb K "LETTERS" "abcdefghijklmnopqrstuvwxyz") && ((Hk.sb K "LETTERS_AND_DIGITS" "abcdefghijklmnopqrstuvwxyz0123456789") && ((Hk.nb K "LONGEST_NAME" 8) && ((decide (PySem.W.nsIn K mainGlobals "HornError" = some (some (.ref (He.ga K "HornError"))))) && ((decide (PySem.W.nsIn K mainGlobals "BadName" = some (some (.ref (He.ga K "BadName"))))) && ((Hk.eb K (He.ga K "BadName")) && (decide (PySem.W.findIn K (.ref (He.ga K "BadName")) "__setattr__" = some (some (.builtin "object.__setattr__")))))))))))))))))))))))))))
def hchk12 (K : PySem.W.Frag) : Bool := (decide (PySem.W.findIn K (.ref (He.ga K "BadName")) "__getattribute__" = some (some (.builtin "BaseException.__getattribute__")))) && ((decide (PySem.W.findIn K (.ref (He.ga K "BadName")) "__getattr__" = some none)) && ((decide (PySem.W.findIn K (.ref (He.ga K "BadName")) "__init__" = some (some (.ref (He.ma K (He.ga K "BadName") "__init__"))))) && ((decide (PySem.W.findIn K (.ref (He.ga K "BadName")) "__class__" = some (some (.builtin "object.__class__")))) && ((decide (PySem.W.findIn K (.ref (He.ga K "BadName")) "text" = some none)) && ((decide (PySem.W.typeIn K (.ref (He.ma K (He.ga K "BadName") "__init__")) = some (.type "function"))) && ((PySem.W.keepIn K (.ref (He.ga K "BadName"))) && ((decide (PySem.W.subIn K (.ref (He.ga K "BadName")) (.type "BaseException") = some true)) && ((decide (PySem.W.subIn K (.ref (He.ga K "BadName")) (.type "ValueError") = some true)) && ((decide (PySem.W.typeIn K (.ref (He.ga K "BadName")) = some (.type "type"))) && ((PySem.W.hasDictIn K (He.ga K "BadName")) && ((PySem.W.isClsIn K (He.ga K "BadName")) && ((decide (PySem.W.subIn K (.ref (He.ga K "BadName")) (.ref (He.ga K "BadName")) = some true)) && ((decide (PySem.W.ks_superIn K (He.ga K "BadName") (He.ga K "BadName") "__init__" = some (some (.builtin "ValueError.__init__")))) && ((decide (PySem.W.mroIn K (He.ga K "BadName") (.ref (He.ga K "BadName")) = some true)) && ((decide (PySem.W.mroIn K (He.ga K "BadName") (.type "object") = some true)) && ((Hk.eib K (He.ma K (He.ga K "BadName") "__init__") (He.ga K "BadName") ("BadName" ++ ".__init__") HKR.prog.main.file) && ((decide (PySem.W.nsIn K mainGlobals "BadLiteral" = some (some (.ref (He.ga K "BadLiteral"))))) && ((Hk.eb K (He.ga K "BadLiteral")) && ((decide (PySem.W.findIn K (.ref (He.ga K "BadLiteral")) "__setattr__" = some (some (.builtin "object.__setattr__")))) && ((decide (PySem.W.findIn K (.ref (He.ga K "BadLiteral")) "__getattribute__" = some (some (.builtin "BaseException.__getattribute__")))) && ((decide (PySem.W.findIn K (.ref (He.ga K "BadLiteral")) "__getattr__" = some none)) && ((decide (PySem.W.findIn K (.ref (He.ga K "BadLiteral")) "__init__" = some (some (.ref (He.ma K (He.ga K "BadLiteral") "__init__"))))) && ((decide (PySem.W.findIn K (.ref (He.ga K "BadLiteral")) "__class__" = some (some (.builtin "object.__class__")))) && (decide (PySem.W.findIn K (.ref (He.ga K "BadLiteral")) "text" = some none)))))))))))))))))))))))))
def hchk13 (K : PySem.W.Frag) : Bool := (decide (PySem.W.typeIn K (.ref (He.ma K (He.ga K "BadLiteral") "__init__")) = some (.type "function"))) && ((PySem.W.keepIn K (.ref (He.ga K "BadLiteral"))) && ((decide (PySem.W.subIn K (.ref (He.ga K "BadLiteral")) (.type "BaseException") = some true)) && ((decide (PySem.W.subIn K (.ref (He.ga K "BadLiteral")) (.type "ValueError") = some true)) && ((decide (PySem.W.typeIn K (.ref (He.ga K "BadLiteral")) = some (.type "type"))) && ((PySem.W.hasDictIn K (He.ga K "BadLiteral")) && ((PySem.W.isClsIn K (He.ga K "BadLiteral")) && ((decide (PySem.W.subIn K (.ref (He.ga K "BadLiteral")) (.ref (He.ga K "BadLiteral")) = some true)) && ((decide (PySem.W.ks_superIn K (He.ga K "BadLiteral") (He.ga K "BadLiteral") "__init__" = some (some (.builtin "ValueError.__init__")))) && ((decide (PySem.W.mroIn K (He.ga K "BadLiteral") (.ref (He.ga K "BadLiteral")) = some true)) && ((decide (PySem.W.mroIn K (He.ga K "BadLiteral") (.type "object") = some true)) && ((Hk.eib K (He.ma K (He.ga K "BadLiteral") "__init__") (He.ga K "BadLiteral") ("BadLiteral" ++ ".__init__") HKR.prog.main.file) && ((decide (PySem.W.nsIn K mainGlobals "BothSigns" = some (some (.ref (He.ga K "BothSigns"))))) && ((Hk.eb K (He.ga K "BothSigns")) && ((decide (PySem.W.findIn K (.ref (He.ga K "BothSigns")) "__setattr__" = some (some (.builtin "object.__setattr__")))) && ((decide (PySem.W.findIn K (.ref (He.ga K "BothSigns")) "__getattribute__" = some (some (.builtin "BaseException.__getattribute__")))) && ((decide (PySem.W.findIn K (.ref (He.ga K "BothSigns")) "__getattr__" = some none)) && ((decide (PySem.W.findIn K (.ref (He.ga K "BothSigns")) "__init__" = some (some (.ref (He.ma K (He.ga K "BothSigns") "__init__"))))) && ((decide (PySem.W.findIn K (.ref (He.ga K "BothSigns")) "__class__" = some (some (.builtin "object.__class__")))) && ((decide (PySem.W.findIn K (.ref (He.ga K "BothSigns")) "name" = some none)) && ((decide (PySem.W.typeIn K (.ref (He.ma K (He.ga K "BothSigns") "__init__")) = some (.type "function"))) && ((PySem.W.keepIn K (.ref (He.ga K "BothSigns"))) && ((decide (PySem.W.subIn K (.ref (He.ga K "BothSigns")) (.type "BaseException") = some true)) && ((decide (PySem.W.subIn K (.ref (He.ga K "BothSigns")) (.type "ValueError") = some true)) && (decide (PySem.W.typeIn K (.ref (He.ga K "BothSigns")) = some (.type "type"))))))))))))))))))))))))))
def hchk14 (K : PySem.W.Frag) : Bool := (PySem.W.hasDictIn K (He.ga K "BothSigns")) && ((PySem.W.isClsIn K (He.ga K "BothSigns")) && ((decide (PySem.W.subIn K (.ref (He.ga K "BothSigns")) (.ref (He.ga K "BothSigns")) = some true)) && ((decide (PySem.W.ks_superIn K (He.ga K "BothSigns") (He.ga K "BothSigns") "__init__" = some (some (.builtin "ValueError.__init__")))) && ((decide (PySem.W.mroIn K (He.ga K "BothSigns") (.ref (He.ga K "BothSigns")) = some true)) && ((decide (PySem.W.mroIn K (He.ga K "BothSigns") (.type "object") = some true)) && ((Hk.eib K (He.ma K (He.ga K "BothSigns") "__init__") (He.ga K "BothSigns") ("BothSigns" ++ ".__init__") HKR.prog.main.file) && ((decide (PySem.W.nsIn K mainGlobals "TooMany" = some (some (.ref (He.ga K "TooMany"))))) && ((Hk.eb K (He.ga K "TooMany")) && ((decide (PySem.W.findIn K (.ref (He.ga K "TooMany")) "__setattr__" = some (some (.builtin "object.__setattr__")))) && ((decide (PySem.W.findIn K (.ref (He.ga K "TooMany")) "__getattribute__" = some (some (.builtin "BaseException.__getattribute__")))) && ((decide (PySem.W.findIn K (.ref (He.ga K "TooMany")) "__getattr__" = some none)) && ((decide (PySem.W.findIn K (.ref (He.ga K "TooMany")) "__init__" = some (some (.ref (He.ma K (He.ga K "TooMany") "__init__"))))) && ((decide (PySem.W.findIn K (.ref (He.ga K "TooMany")) "__class__" = some (some (.builtin "object.__class__")))) && ((decide (PySem.W.findIn K (.ref (He.ga K "TooMany")) "limit" = some none)) && ((decide (PySem.W.typeIn K (.ref (He.ma K (He.ga K "TooMany") "__init__")) = some (.type "function"))) && ((PySem.W.keepIn K (.ref (He.ga K "TooMany"))) && ((decide (PySem.W.subIn K (.ref (He.ga K "TooMany")) (.type "BaseException") = some true)) && ((decide (PySem.W.subIn K (.ref (He.ga K "TooMany")) (.type "ValueError") = some true)) && ((decide (PySem.W.typeIn K (.ref (He.ga K "TooMany")) = some (.type "type"))) && ((PySem.W.hasDictIn K (He.ga K "TooMany")) && ((PySem.W.isClsIn K (He.ga K "TooMany")) && ((decide (PySem.W.subIn K (.ref (He.ga K "TooMany")) (.ref (He.ga K "TooMany")) = some true)) && ((decide (PySem.W.ks_superIn K (He.ga K "TooMany") (He.ga K "TooMany") "__init__" = some (some (.builtin "ValueError.__init__")))) && (decide (PySem.W.mroIn K (He.ga K "TooMany") (.ref (He.ga K "TooMany")) = some true)))))))))))))))))))))))))
def hchk15 (K : PySem.W.Frag) : Bool := (decide (PySem.W.mroIn K (He.ga K "TooMany") (.type "object") = some true)) && ((Hk.eib K (He.ma K (He.ga K "TooMany") "__init__") (He.ga K "TooMany") ("TooMany" ++ ".__init__") HKR.prog.main.file) && ((decide (PySem.W.nsIn K mainGlobals "NoClause" = some (some (.ref (He.ga K "NoClause"))))) && ((Hk.eb K (He.ga K "NoClause")) && ((decide (PySem.W.findIn K (.ref (He.ga K "NoClause")) "__setattr__" = some (some (.builtin "object.__setattr__")))) && ((decide (PySem.W.findIn K (.ref (He.ga K "NoClause")) "__getattribute__" = some (some (.builtin "BaseException.__getattribute__")))) && ((decide (PySem.W.findIn K (.ref (He.ga K "NoClause")) "__getattr__" = some none)) && ((decide (PySem.W.findIn K (.ref (He.ga K "NoClause")) "__init__" = some (some (.ref (He.ma K (He.ga K "NoClause") "__init__"))))) && ((decide (PySem.W.findIn K (.ref (He.ga K "NoClause")) "__class__" = some (some (.builtin "object.__class__")))) && ((decide (PySem.W.findIn K (.ref (He.ga K "NoClause")) "number" = some none)) && ((decide (PySem.W.typeIn K (.ref (He.ma K (He.ga K "NoClause") "__init__")) = some (.type "function"))) && ((PySem.W.keepIn K (.ref (He.ga K "NoClause"))) && ((decide (PySem.W.subIn K (.ref (He.ga K "NoClause")) (.type "BaseException") = some true)) && ((decide (PySem.W.subIn K (.ref (He.ga K "NoClause")) (.type "ValueError") = some true)) && ((decide (PySem.W.typeIn K (.ref (He.ga K "NoClause")) = some (.type "type"))) && ((PySem.W.hasDictIn K (He.ga K "NoClause")) && ((PySem.W.isClsIn K (He.ga K "NoClause")) && ((decide (PySem.W.subIn K (.ref (He.ga K "NoClause")) (.ref (He.ga K "NoClause")) = some true)) && ((decide (PySem.W.ks_superIn K (He.ga K "NoClause") (He.ga K "NoClause") "__init__" = some (some (.builtin "ValueError.__init__")))) && ((decide (PySem.W.mroIn K (He.ga K "NoClause") (.ref (He.ga K "NoClause")) = some true)) && ((decide (PySem.W.mroIn K (He.ga K "NoClause") (.type "object") = some true)) && ((Hk.eib K (He.ma K (He.ga K "NoClause") "__init__") (He.ga K "NoClause") ("NoClause" ++ ".__init__") HKR.prog.main.file) && ((decide (PySem.W.nsIn K mainGlobals "BadNumber" = some (some (.ref (He.ga K "BadNumber"))))) && ((Hk.eb K (He.ga K "BadNumber")) && (decide (PySem.W.findIn K (.ref (He.ga K "BadNumber")) "__setattr__" = some (some (.builtin "object.__setattr__")))))))))))))))))))))))))))
def hchk16 (K : PySem.W.Frag) : Bool := (decide (PySem.W.findIn K (.ref (He.ga K "BadNumber")) "__getattribute__" = some (some (.builtin "BaseException.__getattribute__")))) && ((decide (PySem.W.findIn K (.ref (He.ga K "BadNumber")) "__getattr__" = some none)) && ((decide (PySem.W.findIn K (.ref (He.ga K "BadNumber")) "__init__" = some (some (.ref (He.ma K (He.ga K "BadNumber") "__init__"))))) && ((decide (PySem.W.findIn K (.ref (He.ga K "BadNumber")) "__class__" = some (some (.builtin "object.__class__")))) && ((decide (PySem.W.findIn K (.ref (He.ga K "BadNumber")) "number" = some none)) && ((decide (PySem.W.typeIn K (.ref (He.ma K (He.ga K "BadNumber") "__init__")) = some (.type "function"))) && ((PySem.W.keepIn K (.ref (He.ga K "BadNumber"))) && ((decide (PySem.W.subIn K (.ref (He.ga K "BadNumber")) (.type "BaseException") = some true)) && ((decide (PySem.W.subIn K (.ref (He.ga K "BadNumber")) (.type "ValueError") = some true)) && ((decide (PySem.W.typeIn K (.ref (He.ga K "BadNumber")) = some (.type "type"))) && ((PySem.W.hasDictIn K (He.ga K "BadNumber")) && ((PySem.W.isClsIn K (He.ga K "BadNumber")) && ((decide (PySem.W.subIn K (.ref (He.ga K "BadNumber")) (.ref (He.ga K "BadNumber")) = some true)) && ((decide (PySem.W.ks_superIn K (He.ga K "BadNumber") (He.ga K "BadNumber") "__init__" = some (some (.builtin "ValueError.__init__")))) && ((decide (PySem.W.mroIn K (He.ga K "BadNumber") (.ref (He.ga K "BadNumber")) = some true)) && ((decide (PySem.W.mroIn K (He.ga K "BadNumber") (.type "object") = some true)) && ((Hk.eib K (He.ma K (He.ga K "BadNumber") "__init__") (He.ga K "BadNumber") ("BadNumber" ++ ".__init__") HKR.prog.main.file) && ((decide (PySem.W.nsIn K mainGlobals "NotImplemented" = some none)) && ((decide (PySem.W.nsIn K mainGlobals "ValueError" = some none)) && ((decide (PySem.W.nsIn K mainGlobals "all" = some none)) && ((decide (PySem.W.nsIn K mainGlobals "any" = some none)) && ((decide (PySem.W.nsIn K mainGlobals "bool" = some none)) && ((decide (PySem.W.nsIn K mainGlobals "classmethod" = some none)) && ((decide (PySem.W.nsIn K mainGlobals "enumerate" = some none)) && (decide (PySem.W.nsIn K mainGlobals "int" = some none)))))))))))))))))))))))))
def hchk17 (K : PySem.W.Frag) : Bool := (decide (PySem.W.nsIn K mainGlobals "isinstance" = some none)) && ((decide (PySem.W.nsIn K mainGlobals "iter" = some none)) && ((decide (PySem.W.nsIn K mainGlobals "len" = some none)) && ((decide (PySem.W.nsIn K mainGlobals "list" = some none)) && ((decide (PySem.W.nsIn K mainGlobals "property" = some none)) && ((decide (PySem.W.nsIn K mainGlobals "range" = some none)) && ((decide (PySem.W.nsIn K mainGlobals "set" = some none)) && ((decide (PySem.W.nsIn K mainGlobals "sorted" = some none)) && ((decide (PySem.W.nsIn K mainGlobals "str" = some none)) && ((decide (PySem.W.nsIn K mainGlobals "super" = some none)) && ((decide (PySem.W.nsIn K mainGlobals "tuple" = some none)) && ((decide (PySem.W.nsIn K cStatics "thirdparty.any" = some none)) && ((decide (PySem.W.specialIn K (.builtin "object.__class__") "__get__" = some (some (.builtin "getset_descriptor.__get__")))) && (decide (PySem.W.takesIn K (.builtin "object.__class__") = some true))))))))))))))
def hex (K : PySem.W.Frag) : Bool := (hchk0 K) && ((hchk1 K) && ((hchk2 K) && ((hchk3 K) && ((hchk4 K) && ((hchk5 K) && ((hchk6 K) && ((hchk7 K) && ((hchk8 K) && ((hchk9 K) && ((hchk10 K) && ((hchk11 K) && ((hchk12 K) && ((hchk13 K) && ((hchk14 K) && ((hchk15 K) && ((hchk16 K) && (hchk17 K)))))))))))))))))
def hats0 (K : PySem.W.Frag) : List Addr := [(He.ga K "is_name"), (He.ga K "is_literal"), (He.ga K "check_name"), (He.ga K "check_literal"), (He.ga K "name_of"), (He.ga K "is_positive"), (He.ga K "negated"), (He.ga K "both_signs"), (He.ga K "in_order"), (He.ga K "check_signs"), (He.ga K "needs"), (He.ga K "all_needs"), (He.ga K "_arrivals"), (He.ga K "all_reached"), (He.ga K "chain"), (He.ga K "is_chain"), (He.ma K (He.ga K "Ring") "__init__"), (Hk.pa K (He.ma K (He.ga K "Ring") "numbers") "property"), (He.ma K (He.ga K "Ring") "bars"), (He.ga K "ring_names"), (He.ga K "ring_at"), (He.ga K "first_ring"), (He.ga K "apart_rings"), (He.ma K (He.ga K "Clause") "__init__"), (Hk.pa K (He.ma K (He.ga K "Clause") "names") "property")]
def hats1 (K : PySem.W.Frag) : List Addr := [(He.ma K (He.ga K "Clause") "__iter__"), (He.ma K (He.ga K "Clause") "__contains__"), (He.ga K "turned_literal"), (He.ga K "turned_clause"), (He.ga K "_names_in"), (He.ga K "_check_names"), (He.ga K "_check_room"), (He.ga K "_placed_from_one"), (He.ga K "_all_turned"), (He.ga K "book_of"), (He.ma K (He.ga K "Book") "__init__"), (Hk.pa K (He.ma K (He.ga K "Book") "numbered") "classmethod"), (Hk.pa K (He.ma K (He.ga K "Book") "names") "property"), (Hk.pa K (He.ma K (He.ga K "Book") "next_number") "property"), (He.ma K (He.ga K "Book") "put"), (He.ma K (He.ga K "Book") "drop"), (He.ma K (He.ga K "Book") "copy"), (He.ma K (He.ga K "Book") "__iter__"), (He.ma K (He.ga K "Book") "__len__"), (He.ma K (He.ga K "Book") "__contains__"), (He.ma K (He.ga K "Book") "__getitem__"), (He.ma K (He.ga K "Book") "__setitem__"), (He.ga K "_law_source"), (He.ga K "_law_take"), (He.ga K "_law_word")]
def hats2 (K : PySem.W.Frag) : List Addr := [(He.ga K "_law_names"), (He.ga K "_law_flip"), (He.ga K "_law_name"), (He.ga K "_law_sorted"), (He.ga K "_law_same"), (He.ga K "_law_row"), (He.ga K "_law_knot"), (He.ga K "_law_clause"), (He.ga K "_law_numbers"), (He.ga K "_law_book"), (He.ga K "_law_names_in"), (He.ga K "_law_reach"), (He.ga K "_law_rings"), (He.ga K "_law_is_link"), (He.ga K "_law_is_chain"), (He.ga K "_law_loop"), (He.ga K "_law_numbers_of"), (He.ga K "_law_ring_holds"), (He.ga K "_law_knots"), (He.ga K "_law_world"), (He.ga K "_law_ring"), (He.ga K "_law_apart"), (He.ga K "law"), (He.ma K (He.ga K "BadName") "__init__"), (He.ma K (He.ga K "BadLiteral") "__init__")]
def hats3 (K : PySem.W.Frag) : List Addr := [(He.ma K (He.ga K "BothSigns") "__init__"), (He.ma K (He.ga K "TooMany") "__init__"), (He.ma K (He.ga K "NoClause") "__init__"), (He.ma K (He.ga K "BadNumber") "__init__")]
def hats (K : PySem.W.Frag) : List Addr := hats0 K ++ hats1 K ++ hats2 K ++ hats3 K
def hvals0 : List Hk.FV := [some ("is_name", "is_name", defArgs s_is_name, .stmts (defBody s_is_name), defScope s_is_name, mainGlobals, [], builtinsNs), some ("is_literal", "is_literal", defArgs s_is_literal, .stmts (defBody s_is_literal), defScope s_is_literal, mainGlobals, [], builtinsNs), some ("check_name", "check_name", defArgs s_check_name, .stmts (defBody s_check_name), defScope s_check_name, mainGlobals, [], builtinsNs), some ("check_literal", "check_literal", defArgs s_check_literal, .stmts (defBody s_check_literal), defScope s_check_literal, mainGlobals, [], builtinsNs), some ("name_of", "name_of", defArgs s_name_of, .stmts (defBody s_name_of), defScope s_name_of, mainGlobals, [], builtinsNs), some ("is_positive", "is_positive", defArgs s_is_positive, .stmts (defBody s_is_positive), defScope s_is_positive, mainGlobals, [], builtinsNs), some ("negated", "negated", defArgs s_negated, .stmts (defBody s_negated), defScope s_negated, mainGlobals, [], builtinsNs), some ("both_signs", "both_signs", defArgs s_both_signs, .stmts (defBody s_both_signs), defScope s_both_signs, mainGlobals, [], builtinsNs), some ("in_order", "in_order", defArgs s_in_order, .stmts (defBody s_in_order), defScope s_in_order, mainGlobals, [], builtinsNs), some ("check_signs", "check_signs", defArgs s_check_signs, .stmts (defBody s_check_signs), defScope s_check_signs, mainGlobals, [], builtinsNs), some ("needs", "needs", defArgs s_needs, .stmts (defBody s_needs), defScope s_needs, mainGlobals, [], builtinsNs), some ("all_needs", "all_needs", defArgs s_all_needs, .stmts (defBody s_all_needs), defScope s_all_needs, mainGlobals, [], builtinsNs), some ("_arrivals", "_arrivals", defArgs s__arrivals, .stmts (defBody s__arrivals), defScope s__arrivals, mainGlobals, [], builtinsNs), some ("all_reached", "all_reached", defArgs s_all_reached, .stmts (defBody s_all_reached), defScope s_all_reached, mainGlobals, [], builtinsNs), some ("chain", "chain", defArgs s_chain, .stmts (defBody s_chain), defScope s_chain, mainGlobals, [], builtinsNs), some ("is_chain", "is_chain", defArgs s_is_chain, .stmts (defBody s_is_chain), defScope s_is_chain, mainGlobals, [], builtinsNs), some ("__init__", "Ring.__init__", defArgs s_Ring_init, .stmts (defBody s_Ring_init), defScope s_Ring_init, mainGlobals, [], builtinsNs), some ("numbers", "Ring.numbers", defArgs s_Ring_numbers, .stmts (defBody s_Ring_numbers), defScope s_Ring_numbers, mainGlobals, [], builtinsNs), some ("bars", "Ring.bars", defArgs s_Ring_bars, .stmts (defBody s_Ring_bars), defScope s_Ring_bars, mainGlobals, [], builtinsNs), some ("ring_names", "ring_names", defArgs s_ring_names, .stmts (defBody s_ring_names), defScope s_ring_names, mainGlobals, [], builtinsNs), some ("ring_at", "ring_at", defArgs s_ring_at, .stmts (defBody s_ring_at), defScope s_ring_at, mainGlobals, [], builtinsNs), some ("first_ring", "first_ring", defArgs s_first_ring, .stmts (defBody s_first_ring), defScope s_first_ring, mainGlobals, [], builtinsNs), some ("apart_rings", "apart_rings", defArgs s_apart_rings, .stmts (defBody s_apart_rings), defScope s_apart_rings, mainGlobals, [], builtinsNs), some ("__init__", "Clause.__init__", defArgs s_Clause_init, .stmts (defBody s_Clause_init), defScope s_Clause_init, mainGlobals, [], builtinsNs), some ("names", "Clause.names", defArgs s_Clause_names, .stmts (defBody s_Clause_names), defScope s_Clause_names, mainGlobals, [], builtinsNs)]
def hvals1 : List Hk.FV := [some ("__iter__", "Clause.__iter__", defArgs s_Clause_iter, .stmts (defBody s_Clause_iter), defScope s_Clause_iter, mainGlobals, [], builtinsNs), some ("__contains__", "Clause.__contains__", defArgs s_Clause_contains, .stmts (defBody s_Clause_contains), defScope s_Clause_contains, mainGlobals, [], builtinsNs), some ("turned_literal", "turned_literal", defArgs s_turned_literal, .stmts (defBody s_turned_literal), defScope s_turned_literal, mainGlobals, [], builtinsNs), some ("turned_clause", "turned_clause", defArgs s_turned_clause, .stmts (defBody s_turned_clause), defScope s_turned_clause, mainGlobals, [], builtinsNs), some ("_names_in", "_names_in", defArgs s__names_in, .stmts (defBody s__names_in), defScope s__names_in, mainGlobals, [], builtinsNs), some ("_check_names", "_check_names", defArgs s__check_names, .stmts (defBody s__check_names), defScope s__check_names, mainGlobals, [], builtinsNs), some ("_check_room", "_check_room", defArgs s__check_room, .stmts (defBody s__check_room), defScope s__check_room, mainGlobals, [], builtinsNs), some ("_placed_from_one", "_placed_from_one", defArgs s__placed_from_one, .stmts (defBody s__placed_from_one), defScope s__placed_from_one, mainGlobals, [], builtinsNs), some ("_all_turned", "_all_turned", defArgs s__all_turned, .stmts (defBody s__all_turned), defScope s__all_turned, mainGlobals, [], builtinsNs), some ("book_of", "book_of", defArgs s_book_of, .stmts (defBody s_book_of), defScope s_book_of, mainGlobals, [], builtinsNs), some ("__init__", "Book.__init__", defArgs s_Book_init, .stmts (defBody s_Book_init), defScope s_Book_init, mainGlobals, [], builtinsNs), some ("numbered", "Book.numbered", defArgs s_Book_numbered, .stmts (defBody s_Book_numbered), defScope s_Book_numbered, mainGlobals, [], builtinsNs), some ("names", "Book.names", defArgs s_Book_names, .stmts (defBody s_Book_names), defScope s_Book_names, mainGlobals, [], builtinsNs), some ("next_number", "Book.next_number", defArgs s_Book_next_number, .stmts (defBody s_Book_next_number), defScope s_Book_next_number, mainGlobals, [], builtinsNs), some ("put", "Book.put", defArgs s_Book_put, .stmts (defBody s_Book_put), defScope s_Book_put, mainGlobals, [], builtinsNs), some ("drop", "Book.drop", defArgs s_Book_drop, .stmts (defBody s_Book_drop), defScope s_Book_drop, mainGlobals, [], builtinsNs), some ("copy", "Book.copy", defArgs s_Book_copy, .stmts (defBody s_Book_copy), defScope s_Book_copy, mainGlobals, [], builtinsNs), some ("__iter__", "Book.__iter__", defArgs s_Book_iter, .stmts (defBody s_Book_iter), defScope s_Book_iter, mainGlobals, [], builtinsNs), some ("__len__", "Book.__len__", defArgs s_Book_len, .stmts (defBody s_Book_len), defScope s_Book_len, mainGlobals, [], builtinsNs), some ("__contains__", "Book.__contains__", defArgs s_Book_contains, .stmts (defBody s_Book_contains), defScope s_Book_contains, mainGlobals, [], builtinsNs), some ("__getitem__", "Book.__getitem__", defArgs s_Book_getitem, .stmts (defBody s_Book_getitem), defScope s_Book_getitem, mainGlobals, [], builtinsNs), some ("__setitem__", "Book.__setitem__", defArgs s_Book_setitem, .stmts (defBody s_Book_setitem), defScope s_Book_setitem, mainGlobals, [], builtinsNs), some ("_law_source", "_law_source", defArgs s__law_source, .stmts (defBody s__law_source), defScope s__law_source, mainGlobals, [], builtinsNs), some ("_law_take", "_law_take", defArgs s__law_take, .stmts (defBody s__law_take), defScope s__law_take, mainGlobals, [], builtinsNs), some ("_law_word", "_law_word", defArgs s__law_word, .stmts (defBody s__law_word), defScope s__law_word, mainGlobals, [], builtinsNs)]
def hvals2 : List Hk.FV := [some ("_law_names", "_law_names", defArgs s__law_names, .stmts (defBody s__law_names), defScope s__law_names, mainGlobals, [], builtinsNs), some ("_law_flip", "_law_flip", defArgs s__law_flip, .stmts (defBody s__law_flip), defScope s__law_flip, mainGlobals, [], builtinsNs), some ("_law_name", "_law_name", defArgs s__law_name, .stmts (defBody s__law_name), defScope s__law_name, mainGlobals, [], builtinsNs), some ("_law_sorted", "_law_sorted", defArgs s__law_sorted, .stmts (defBody s__law_sorted), defScope s__law_sorted, mainGlobals, [], builtinsNs), some ("_law_same", "_law_same", defArgs s__law_same, .stmts (defBody s__law_same), defScope s__law_same, mainGlobals, [], builtinsNs), some ("_law_row", "_law_row", defArgs s__law_row, .stmts (defBody s__law_row), defScope s__law_row, mainGlobals, [], builtinsNs), some ("_law_knot", "_law_knot", defArgs s__law_knot, .stmts (defBody s__law_knot), defScope s__law_knot, mainGlobals, [], builtinsNs), some ("_law_clause", "_law_clause", defArgs s__law_clause, .stmts (defBody s__law_clause), defScope s__law_clause, mainGlobals, [], builtinsNs), some ("_law_numbers", "_law_numbers", defArgs s__law_numbers, .stmts (defBody s__law_numbers), defScope s__law_numbers, mainGlobals, [], builtinsNs), some ("_law_book", "_law_book", defArgs s__law_book, .stmts (defBody s__law_book), defScope s__law_book, mainGlobals, [], builtinsNs), some ("_law_names_in", "_law_names_in", defArgs s__law_names_in, .stmts (defBody s__law_names_in), defScope s__law_names_in, mainGlobals, [], builtinsNs), some ("_law_reach", "_law_reach", defArgs s__law_reach, .stmts (defBody s__law_reach), defScope s__law_reach, mainGlobals, [], builtinsNs), some ("_law_rings", "_law_rings", defArgs s__law_rings, .stmts (defBody s__law_rings), defScope s__law_rings, mainGlobals, [], builtinsNs), some ("_law_is_link", "_law_is_link", defArgs s__law_is_link, .stmts (defBody s__law_is_link), defScope s__law_is_link, mainGlobals, [], builtinsNs), some ("_law_is_chain", "_law_is_chain", defArgs s__law_is_chain, .stmts (defBody s__law_is_chain), defScope s__law_is_chain, mainGlobals, [], builtinsNs), some ("_law_loop", "_law_loop", defArgs s__law_loop, .stmts (defBody s__law_loop), defScope s__law_loop, mainGlobals, [], builtinsNs), some ("_law_numbers_of", "_law_numbers_of", defArgs s__law_numbers_of, .stmts (defBody s__law_numbers_of), defScope s__law_numbers_of, mainGlobals, [], builtinsNs), some ("_law_ring_holds", "_law_ring_holds", defArgs s__law_ring_holds, .stmts (defBody s__law_ring_holds), defScope s__law_ring_holds, mainGlobals, [], builtinsNs), some ("_law_knots", "_law_knots", defArgs s__law_knots, .stmts (defBody s__law_knots), defScope s__law_knots, mainGlobals, [], builtinsNs), some ("_law_world", "_law_world", defArgs s__law_world, .stmts (defBody s__law_world), defScope s__law_world, mainGlobals, [], builtinsNs), some ("_law_ring", "_law_ring", defArgs s__law_ring, .stmts (defBody s__law_ring), defScope s__law_ring, mainGlobals, [], builtinsNs), some ("_law_apart", "_law_apart", defArgs s__law_apart, .stmts (defBody s__law_apart), defScope s__law_apart, mainGlobals, [], builtinsNs), some ("law", "law", defArgs s_law, .stmts (defBody s_law), defScope s_law, mainGlobals, [], builtinsNs), some ("__init__", "BadName" ++ ".__init__", ea_BadName, .stmts eb_BadName, scope1 "text", mainGlobals, [Str.ofString "__class__"], builtinsNs), some ("__init__", "BadLiteral" ++ ".__init__", ea_BadLiteral, .stmts eb_BadLiteral, scope1 "text", mainGlobals, [Str.ofString "__class__"], builtinsNs)]
def hvals3 : List Hk.FV := [some ("__init__", "BothSigns" ++ ".__init__", ea_BothSigns, .stmts eb_BothSigns, scope1 "name", mainGlobals, [Str.ofString "__class__"], builtinsNs), some ("__init__", "TooMany" ++ ".__init__", ea_TooMany, .stmts eb_TooMany, scope1 "limit", mainGlobals, [Str.ofString "__class__"], builtinsNs), some ("__init__", "NoClause" ++ ".__init__", ea_NoClause, .stmts eb_NoClause, scope1 "number", mainGlobals, [Str.ofString "__class__"], builtinsNs), some ("__init__", "BadNumber" ++ ".__init__", ea_BadNumber, .stmts eb_BadNumber, scope1 "number", mainGlobals, [Str.ofString "__class__"], builtinsNs)]
def hvals : List Hk.FV := hvals0 ++ hvals1 ++ hvals2 ++ hvals3
def hnames0 : List PySem.Str := ["_wall", "__name__", "HornError", "BadName", "BadLiteral", "BothSigns", "TooMany", "NoClause", "BadNumber", "LETTERS", "LETTERS_AND_DIGITS", "LONGEST_NAME", "is_name", "is_literal", "check_name", "check_literal", "name_of", "is_positive", "negated", "both_signs", "in_order", "check_signs", "needs", "all_needs", "_arrivals"]
def hnames1 : List PySem.Str := ["all_reached", "chain", "is_chain", "Ring", "ring_names", "ring_at", "first_ring", "apart_rings", "Clause", "turned_literal", "turned_clause", "_names_in", "_check_names", "_check_room", "_placed_from_one", "_all_turned", "book_of", "Book", "_law_source", "_law_take", "_law_word", "_law_names", "_law_flip", "_law_name", "_law_sorted"]
def hnames2 : List PySem.Str := ["_law_same", "_law_row", "_law_knot", "_law_clause", "_law_numbers", "_law_book", "_law_names_in", "_law_reach", "_law_rings", "_law_is_link", "_law_is_chain", "_law_loop", "_law_numbers_of", "_law_ring_holds", "_law_knots", "_law_world", "_law_ring", "_law_apart"]
def hnames : List PySem.Str := hnames0 ++ hnames1 ++ hnames2
abbrev hqv : Program := view HKR.prog [75]
abbrev hhk : PySem.W.Hook := Hk.hook 5 hex hats hvals
theorem hrun (w : World) : HandSHeadRun.RunEq HKR hqv hhk (fun s => Hk.ob 5 hex hats (HandSHeadRun.getT s)) 20000 hnames w := by
  intro os
  kernel_rfl
theorem hfacts {w : World} {K : PySem.W.Frag} {h : Heap} {mg : Str → Option Value} {fa : Addr} (X : K.In h) (G : h.Ns mainGlobals mg) (hfa : mg "law" = some (.ref fa)) (c : Hk.Says hex hats hvals K) :
    ∃ fd : FuncData, (∀ (s : Shared) (v : Value), BindsTo s fd ⟨[v], []⟩ [("_law_script", v)]) ∧ ∀ base : Heap, K.In base → base.Ns mainGlobals mg → L2.FnOk (PySem.Challenge.rw_renamedhorn_k29_rings_apart).prog w K mg base L2.CX0 19 fa fd ["_law_script"] (spLaw K) := by
  have hx := c.ex
  simp only [hex, Bool.and_eq_true] at hx
  obtain ⟨g0, g1, g2, g3, g4, g5, g6, g7, g8, g9, g10, g11, g12, g13, g14, g15, g16, g17⟩ := hx
  simp only [hchk0, Bool.and_eq_true, decide_eq_true_eq] at g0
  obtain ⟨cg0, cpg0, chd0, cpo0, csa0, cmi0, ckc0, cha0, cmo0, cme0, cna0_0, cna0_1, cna0_2, cg1, cpg1, chd1, cpo1, csa1, cmi1, ckc1, cha1, cmo1, cme1, cna1_0, cg2⟩ := g0
  simp only [hchk1, Bool.and_eq_true, decide_eq_true_eq] at g1
  obtain ⟨cpg2, chd2, cpo2, csa2, cmi2, ckc2, cha2, cmo2, cme2, cna2_0, cna2_1, om_Book, cvr_Clause, cvg_Clause, b_cvf_Clause_LIMIT, cvr_Book, cvg_Book, b_cvf_Book_LIMIT, b_cvf_Book_NAMES, b_cvf_Book_NUMBERS, a0, fb_l0, k0, a1, fb_l1⟩ := g1
  simp only [hchk2, Bool.and_eq_true, decide_eq_true_eq] at g2
  obtain ⟨k1, a2, fb_l2, k2, a3, fb_l3, k3, a4, fb_l4, k4, a5, fb_l5, k5, a6, fb_l6, k6, a7, fb_l7, k7, a8, fb_l8, k8, a9, fb_l9, k9⟩ := g2
  simp only [hchk3, Bool.and_eq_true, decide_eq_true_eq] at g3
  obtain ⟨a10, fb_l10, k10, a11, fb_l11, k11, a12, fb_l12, k12, a13, fb_l13, k13, a14, fb_l14, k14, a15, fb_l15, k15, a16, fb_l16, if16, k16, a17, b_pr17, pg17⟩ := g3
  simp only [hchk4, Bool.and_eq_true, decide_eq_true_eq] at g4
  obtain ⟨pt17, fb_l17, k17, a18, fb_l18, if18, k18, a19, fb_l19, k19, a20, fb_l20, k20, a21, fb_l21, k21, a22, fb_l22, k22, a23, fb_l23, if23, k23, a24, b_pr24⟩ := g4
  simp only [hchk5, Bool.and_eq_true, decide_eq_true_eq] at g5
  obtain ⟨pg24, pt24, fb_l24, k24, a25, fb_l25, if25, k25, a26, fb_l26, if26, k26, a27, fb_l27, k27, a28, fb_l28, k28, a29, fb_l29, k29, a30, fb_l30, k30, a31⟩ := g5
  simp only [hchk6, Bool.and_eq_true, decide_eq_true_eq] at g6
  obtain ⟨fb_l31, k31, a32, fb_l32, k32, a33, fb_l33, k33, a34, fb_l34, k34, a35, fb_l35, if35, k35, a36, b_sr36, b_sf36, fb_l36, sk36, k36, a37, b_pr37, pg37, pt37⟩ := g6
  simp only [hchk7, Bool.and_eq_true, decide_eq_true_eq] at g7
  obtain ⟨fb_l37, k37, a38, b_pr38, pg38, pt38, fb_l38, k38, a39, fb_l39, if39, k39, a40, fb_l40, if40, k40, a41, fb_l41, if41, k41, a42, fb_l42, if42, k42, a43⟩ := g7
  simp only [hchk8, Bool.and_eq_true, decide_eq_true_eq] at g8
  obtain ⟨fb_l43, if43, k43, a44, fb_l44, if44, k44, a45, fb_l45, if45, k45, a46, fb_l46, if46, k46, a47, fb_l47, k47, a48, fb_l48, k48, a49, fb_l49, k49, a50⟩ := g8
  simp only [hchk9, Bool.and_eq_true, decide_eq_true_eq] at g9
  obtain ⟨fb_l50, k50, a51, fb_l51, k51, a52, fb_l52, k52, a53, fb_l53, k53, a54, fb_l54, k54, a55, fb_l55, k55, a56, fb_l56, k56, a57, fb_l57, k57, a58, fb_l58⟩ := g9
  simp only [hchk10, Bool.and_eq_true, decide_eq_true_eq] at g10
  obtain ⟨k58, a59, fb_l59, k59, a60, fb_l60, k60, a61, fb_l61, k61, a62, fb_l62, k62, a63, fb_l63, k63, a64, fb_l64, k64, a65, fb_l65, k65, a66, fb_l66, k66⟩ := g10
  simp only [hchk11, Bool.and_eq_true, decide_eq_true_eq] at g11
  obtain ⟨a67, fb_l67, k67, a68, fb_l68, k68, a69, fb_l69, k69, a70, fb_l70, k70, a71, fb_l71, k71, a72, fb_l72, k72, b_v0, b_v1, b_v2, eg0, eg1, b_el1, esa1⟩ := g11
  simp only [hchk12, Bool.and_eq_true, decide_eq_true_eq] at g12
  obtain ⟨ega1, egg1, ein1, ecl1, efn1, eti1, ekc1, ebe1, eve1, ety1, ehd1, eic1, ess1, eup1, emr1, emo1, b_elf1, eg2, b_el2, esa2, ega2, egg2, ein2, ecl2, efn2⟩ := g12
  simp only [hchk13, Bool.and_eq_true, decide_eq_true_eq] at g13
  obtain ⟨eti2, ekc2, ebe2, eve2, ety2, ehd2, eic2, ess2, eup2, emr2, emo2, b_elf2, eg3, b_el3, esa3, ega3, egg3, ein3, ecl3, efn3, eti3, ekc3, ebe3, eve3, ety3⟩ := g13
  simp only [hchk14, Bool.and_eq_true, decide_eq_true_eq] at g14
  obtain ⟨ehd3, eic3, ess3, eup3, emr3, emo3, b_elf3, eg4, b_el4, esa4, ega4, egg4, ein4, ecl4, efn4, eti4, ekc4, ebe4, eve4, ety4, ehd4, eic4, ess4, eup4, emr4⟩ := g14
  simp only [hchk15, Bool.and_eq_true, decide_eq_true_eq] at g15
  obtain ⟨emo4, b_elf4, eg5, b_el5, esa5, ega5, egg5, ein5, ecl5, efn5, eti5, ekc5, ebe5, eve5, ety5, ehd5, eic5, ess5, eup5, emr5, emo5, b_elf5, eg6, b_el6, esa6⟩ := g15
  simp only [hchk16, Bool.and_eq_true, decide_eq_true_eq] at g16
  obtain ⟨ega6, egg6, ein6, ecl6, efn6, eti6, ekc6, ebe6, eve6, ety6, ehd6, eic6, ess6, eup6, emr6, emo6, b_elf6, z0, z1, z2, z3, z4, z5, z6, z7⟩ := g16
  simp only [hchk17, Bool.and_eq_true, decide_eq_true_eq] at g17
  obtain ⟨z8, z9, z10, z11, z12, z13, z14, z15, z16, zsu, z18, zop, zsp, ztk⟩ := g17
  obtain ⟨_, cvf_Clause_LIMIT⟩ := Hk.ib_get b_cvf_Clause_LIMIT
  obtain ⟨_, cvf_Book_LIMIT⟩ := Hk.ib_get b_cvf_Book_LIMIT
  obtain ⟨_, cvf_Book_NAMES⟩ := Hk.ib_get b_cvf_Book_NAMES
  obtain ⟨_, cvf_Book_NUMBERS⟩ := Hk.ib_get b_cvf_Book_NUMBERS
  obtain ⟨_, _, _, _, _, _, _, _, _, l0, c0⟩ := Hk.fb_get (c.at_ 0 rfl rfl) fb_l0
  obtain ⟨_, _, _, _, _, _, _, _, _, l1, c1⟩ := Hk.fb_get (c.at_ 1 rfl rfl) fb_l1
  obtain ⟨_, _, _, _, _, _, _, _, _, l2, c2⟩ := Hk.fb_get (c.at_ 2 rfl rfl) fb_l2
  obtain ⟨_, _, _, _, _, _, _, _, _, l3, c3⟩ := Hk.fb_get (c.at_ 3 rfl rfl) fb_l3
  obtain ⟨_, _, _, _, _, _, _, _, _, l4, c4⟩ := Hk.fb_get (c.at_ 4 rfl rfl) fb_l4
  obtain ⟨_, _, _, _, _, _, _, _, _, l5, c5⟩ := Hk.fb_get (c.at_ 5 rfl rfl) fb_l5
  obtain ⟨_, _, _, _, _, _, _, _, _, l6, c6⟩ := Hk.fb_get (c.at_ 6 rfl rfl) fb_l6
  obtain ⟨_, _, _, _, _, _, _, _, _, l7, c7⟩ := Hk.fb_get (c.at_ 7 rfl rfl) fb_l7
  obtain ⟨_, _, _, _, _, _, _, _, _, l8, c8⟩ := Hk.fb_get (c.at_ 8 rfl rfl) fb_l8
  obtain ⟨_, _, _, _, _, _, _, _, _, l9, c9⟩ := Hk.fb_get (c.at_ 9 rfl rfl) fb_l9
  obtain ⟨_, _, _, _, _, _, _, _, _, l10, c10⟩ := Hk.fb_get (c.at_ 10 rfl rfl) fb_l10
  obtain ⟨_, _, _, _, _, _, _, _, _, l11, c11⟩ := Hk.fb_get (c.at_ 11 rfl rfl) fb_l11
  obtain ⟨_, _, _, _, _, _, _, _, _, l12, c12⟩ := Hk.fb_get (c.at_ 12 rfl rfl) fb_l12
  obtain ⟨_, _, _, _, _, _, _, _, _, l13, c13⟩ := Hk.fb_get (c.at_ 13 rfl rfl) fb_l13
  obtain ⟨_, _, _, _, _, _, _, _, _, l14, c14⟩ := Hk.fb_get (c.at_ 14 rfl rfl) fb_l14
  obtain ⟨_, _, _, _, _, _, _, _, _, l15, c15⟩ := Hk.fb_get (c.at_ 15 rfl rfl) fb_l15
  obtain ⟨_, _, _, _, _, _, _, _, _, l16, c16⟩ := Hk.fb_get (c.at_ 16 rfl rfl) fb_l16
  obtain ⟨_, pr17⟩ := Hk.pb_get b_pr17
  obtain ⟨_, _, _, _, _, _, _, _, _, l17, c17⟩ := Hk.fb_get (c.at_ 17 rfl rfl) fb_l17
  obtain ⟨_, _, _, _, _, _, _, _, _, l18, c18⟩ := Hk.fb_get (c.at_ 18 rfl rfl) fb_l18
  obtain ⟨_, _, _, _, _, _, _, _, _, l19, c19⟩ := Hk.fb_get (c.at_ 19 rfl rfl) fb_l19
  obtain ⟨_, _, _, _, _, _, _, _, _, l20, c20⟩ := Hk.fb_get (c.at_ 20 rfl rfl) fb_l20
  obtain ⟨_, _, _, _, _, _, _, _, _, l21, c21⟩ := Hk.fb_get (c.at_ 21 rfl rfl) fb_l21
  obtain ⟨_, _, _, _, _, _, _, _, _, l22, c22⟩ := Hk.fb_get (c.at_ 22 rfl rfl) fb_l22
  obtain ⟨_, _, _, _, _, _, _, _, _, l23, c23⟩ := Hk.fb_get (c.at_ 23 rfl rfl) fb_l23
  obtain ⟨_, pr24⟩ := Hk.pb_get b_pr24
  obtain ⟨_, _, _, _, _, _, _, _, _, l24, c24⟩ := Hk.fb_get (c.at_ 24 rfl rfl) fb_l24
  obtain ⟨_, _, _, _, _, _, _, _, _, l25, c25⟩ := Hk.fb_get (c.at_ 25 rfl rfl) fb_l25
  obtain ⟨_, _, _, _, _, _, _, _, _, l26, c26⟩ := Hk.fb_get (c.at_ 26 rfl rfl) fb_l26
  obtain ⟨_, _, _, _, _, _, _, _, _, l27, c27⟩ := Hk.fb_get (c.at_ 27 rfl rfl) fb_l27
  obtain ⟨_, _, _, _, _, _, _, _, _, l28, c28⟩ := Hk.fb_get (c.at_ 28 rfl rfl) fb_l28
  obtain ⟨_, _, _, _, _, _, _, _, _, l29, c29⟩ := Hk.fb_get (c.at_ 29 rfl rfl) fb_l29
  obtain ⟨_, _, _, _, _, _, _, _, _, l30, c30⟩ := Hk.fb_get (c.at_ 30 rfl rfl) fb_l30
  obtain ⟨_, _, _, _, _, _, _, _, _, l31, c31⟩ := Hk.fb_get (c.at_ 31 rfl rfl) fb_l31
  obtain ⟨_, _, _, _, _, _, _, _, _, l32, c32⟩ := Hk.fb_get (c.at_ 32 rfl rfl) fb_l32
  obtain ⟨_, _, _, _, _, _, _, _, _, l33, c33⟩ := Hk.fb_get (c.at_ 33 rfl rfl) fb_l33
  obtain ⟨_, _, _, _, _, _, _, _, _, l34, c34⟩ := Hk.fb_get (c.at_ 34 rfl rfl) fb_l34
  obtain ⟨_, _, _, _, _, _, _, _, _, l35, c35⟩ := Hk.fb_get (c.at_ 35 rfl rfl) fb_l35
  obtain ⟨_, sr36⟩ := Hk.pb_get b_sr36
  have sf36 := Hk.gb_get b_sf36
  obtain ⟨_, _, _, _, _, _, _, _, _, l36, c36⟩ := Hk.fb_get (c.at_ 36 rfl rfl) fb_l36
  obtain ⟨_, pr37⟩ := Hk.pb_get b_pr37
  obtain ⟨_, _, _, _, _, _, _, _, _, l37, c37⟩ := Hk.fb_get (c.at_ 37 rfl rfl) fb_l37
  obtain ⟨_, pr38⟩ := Hk.pb_get b_pr38
  obtain ⟨_, _, _, _, _, _, _, _, _, l38, c38⟩ := Hk.fb_get (c.at_ 38 rfl rfl) fb_l38
  obtain ⟨_, _, _, _, _, _, _, _, _, l39, c39⟩ := Hk.fb_get (c.at_ 39 rfl rfl) fb_l39
  obtain ⟨_, _, _, _, _, _, _, _, _, l40, c40⟩ := Hk.fb_get (c.at_ 40 rfl rfl) fb_l40
  obtain ⟨_, _, _, _, _, _, _, _, _, l41, c41⟩ := Hk.fb_get (c.at_ 41 rfl rfl) fb_l41
  obtain ⟨_, _, _, _, _, _, _, _, _, l42, c42⟩ := Hk.fb_get (c.at_ 42 rfl rfl) fb_l42
  obtain ⟨_, _, _, _, _, _, _, _, _, l43, c43⟩ := Hk.fb_get (c.at_ 43 rfl rfl) fb_l43
  obtain ⟨_, _, _, _, _, _, _, _, _, l44, c44⟩ := Hk.fb_get (c.at_ 44 rfl rfl) fb_l44
  obtain ⟨_, _, _, _, _, _, _, _, _, l45, c45⟩ := Hk.fb_get (c.at_ 45 rfl rfl) fb_l45
  obtain ⟨_, _, _, _, _, _, _, _, _, l46, c46⟩ := Hk.fb_get (c.at_ 46 rfl rfl) fb_l46
  obtain ⟨_, _, _, _, _, _, _, _, _, l47, c47⟩ := Hk.fb_get (c.at_ 47 rfl rfl) fb_l47
  obtain ⟨_, _, _, _, _, _, _, _, _, l48, c48⟩ := Hk.fb_get (c.at_ 48 rfl rfl) fb_l48
  obtain ⟨_, _, _, _, _, _, _, _, _, l49, c49⟩ := Hk.fb_get (c.at_ 49 rfl rfl) fb_l49
  obtain ⟨_, _, _, _, _, _, _, _, _, l50, c50⟩ := Hk.fb_get (c.at_ 50 rfl rfl) fb_l50
  obtain ⟨_, _, _, _, _, _, _, _, _, l51, c51⟩ := Hk.fb_get (c.at_ 51 rfl rfl) fb_l51
  obtain ⟨_, _, _, _, _, _, _, _, _, l52, c52⟩ := Hk.fb_get (c.at_ 52 rfl rfl) fb_l52
  obtain ⟨_, _, _, _, _, _, _, _, _, l53, c53⟩ := Hk.fb_get (c.at_ 53 rfl rfl) fb_l53
  obtain ⟨_, _, _, _, _, _, _, _, _, l54, c54⟩ := Hk.fb_get (c.at_ 54 rfl rfl) fb_l54
  obtain ⟨_, _, _, _, _, _, _, _, _, l55, c55⟩ := Hk.fb_get (c.at_ 55 rfl rfl) fb_l55
  obtain ⟨_, _, _, _, _, _, _, _, _, l56, c56⟩ := Hk.fb_get (c.at_ 56 rfl rfl) fb_l56
  obtain ⟨_, _, _, _, _, _, _, _, _, l57, c57⟩ := Hk.fb_get (c.at_ 57 rfl rfl) fb_l57
  obtain ⟨_, _, _, _, _, _, _, _, _, l58, c58⟩ := Hk.fb_get (c.at_ 58 rfl rfl) fb_l58
  obtain ⟨_, _, _, _, _, _, _, _, _, l59, c59⟩ := Hk.fb_get (c.at_ 59 rfl rfl) fb_l59
  obtain ⟨_, _, _, _, _, _, _, _, _, l60, c60⟩ := Hk.fb_get (c.at_ 60 rfl rfl) fb_l60
  obtain ⟨_, _, _, _, _, _, _, _, _, l61, c61⟩ := Hk.fb_get (c.at_ 61 rfl rfl) fb_l61
  obtain ⟨_, _, _, _, _, _, _, _, _, l62, c62⟩ := Hk.fb_get (c.at_ 62 rfl rfl) fb_l62
  obtain ⟨_, _, _, _, _, _, _, _, _, l63, c63⟩ := Hk.fb_get (c.at_ 63 rfl rfl) fb_l63
  obtain ⟨_, _, _, _, _, _, _, _, _, l64, c64⟩ := Hk.fb_get (c.at_ 64 rfl rfl) fb_l64
  obtain ⟨_, _, _, _, _, _, _, _, _, l65, c65⟩ := Hk.fb_get (c.at_ 65 rfl rfl) fb_l65
  obtain ⟨_, _, _, _, _, _, _, _, _, l66, c66⟩ := Hk.fb_get (c.at_ 66 rfl rfl) fb_l66
  obtain ⟨_, _, _, _, _, _, _, _, _, l67, c67⟩ := Hk.fb_get (c.at_ 67 rfl rfl) fb_l67
  obtain ⟨_, _, _, _, _, _, _, _, _, l68, c68⟩ := Hk.fb_get (c.at_ 68 rfl rfl) fb_l68
  obtain ⟨_, _, _, _, _, _, _, _, _, l69, c69⟩ := Hk.fb_get (c.at_ 69 rfl rfl) fb_l69
  obtain ⟨_, _, _, _, _, _, _, _, _, l70, c70⟩ := Hk.fb_get (c.at_ 70 rfl rfl) fb_l70
  obtain ⟨_, _, _, _, _, _, _, _, _, l71, c71⟩ := Hk.fb_get (c.at_ 71 rfl rfl) fb_l71
  obtain ⟨_, _, _, _, _, _, _, _, _, l72, c72⟩ := Hk.fb_get (c.at_ 72 rfl rfl) fb_l72
  obtain ⟨_, v0⟩ := Hk.sb_get b_v0
  obtain ⟨_, v1⟩ := Hk.sb_get b_v1
  obtain ⟨_, v2⟩ := Hk.nb_get b_v2
  obtain ⟨_, _, _, _, _, _, _, _, _, _, _, _, _, _, _, el1, er1⟩ := Hk.eb_get b_el1
  obtain ⟨_, _, _, _, _, _, _, _, _, elf1, ecd1, _, _, _, _, _, _, elc1, evs1, efi1, _, _, _, ece1⟩ := Hk.eib_get (c.at_ 73 rfl rfl) b_elf1
  obtain ⟨_, _, _, _, _, _, _, _, _, _, _, _, _, _, _, el2, er2⟩ := Hk.eb_get b_el2
  obtain ⟨_, _, _, _, _, _, _, _, _, elf2, ecd2, _, _, _, _, _, _, elc2, evs2, efi2, _, _, _, ece2⟩ := Hk.eib_get (c.at_ 74 rfl rfl) b_elf2
  obtain ⟨_, _, _, _, _, _, _, _, _, _, _, _, _, _, _, el3, er3⟩ := Hk.eb_get b_el3
  obtain ⟨_, _, _, _, _, _, _, _, _, elf3, ecd3, _, _, _, _, _, _, elc3, evs3, efi3, _, _, _, ece3⟩ := Hk.eib_get (c.at_ 75 rfl rfl) b_elf3
  obtain ⟨_, _, _, _, _, _, _, _, _, _, _, _, _, _, _, el4, er4⟩ := Hk.eb_get b_el4
  obtain ⟨_, _, _, _, _, _, _, _, _, elf4, ecd4, _, _, _, _, _, _, elc4, evs4, efi4, _, _, _, ece4⟩ := Hk.eib_get (c.at_ 76 rfl rfl) b_elf4
  obtain ⟨_, _, _, _, _, _, _, _, _, _, _, _, _, _, _, el5, er5⟩ := Hk.eb_get b_el5
  obtain ⟨_, _, _, _, _, _, _, _, _, elf5, ecd5, _, _, _, _, _, _, elc5, evs5, efi5, _, _, _, ece5⟩ := Hk.eib_get (c.at_ 77 rfl rfl) b_elf5
  obtain ⟨_, _, _, _, _, _, _, _, _, _, _, _, _, _, _, el6, er6⟩ := Hk.eb_get b_el6
  obtain ⟨_, _, _, _, _, _, _, _, _, elf6, ecd6, _, _, _, _, _, _, elc6, evs6, efi6, _, _, _, ece6⟩ := Hk.eib_get (c.at_ 78 rfl rfl) b_elf6
  exact all_mk (l := PySem.Challenge.rw_renamedhorn_k29_rings_apart) X G hfa cg0 cpg0 chd0 cpo0 csa0 cmi0 ckc0 cha0 cmo0 cme0 cna0_0 cna0_1 cna0_2 cg1 cpg1 chd1 cpo1 csa1 cmi1 ckc1 cha1 cmo1 cme1 cna1_0 cg2 cpg2 chd2 cpo2 csa2 cmi2 ckc2 cha2 cmo2 cme2 cna2_0 cna2_1 om_Book cvr_Clause cvg_Clause cvf_Clause_LIMIT cvr_Book cvg_Book cvf_Book_LIMIT cvf_Book_NAMES cvf_Book_NUMBERS a0 l0 c0 k0 a1 l1 c1 k1 a2 l2 c2 k2 a3 l3 c3 k3 a4 l4 c4 k4 a5 l5 c5 k5 a6 l6 c6 k6 a7 l7 c7 k7 a8 l8 c8 k8 a9 l9 c9 k9 a10 l10 c10 k10 a11 l11 c11 k11 a12 l12 c12 k12 a13 l13 c13 k13 a14 l14 c14 k14 a15 l15 c15 k15 a16 l16 if16 c16 k16 a17 pr17 pg17 pt17 l17 c17 k17 a18 l18 if18 c18 k18 a19 l19 c19 k19 a20 l20 c20 k20 a21 l21 c21 k21 a22 l22 c22 k22 a23 l23 if23 c23 k23 a24 pr24 pg24 pt24 l24 c24 k24 a25 l25 if25 c25 k25 a26 l26 if26 c26 k26 a27 l27 c27 k27 a28 l28 c28 k28 a29 l29 c29 k29 a30 l30 c30 k30 a31 l31 c31 k31 a32 l32 c32 k32 a33 l33 c33 k33 a34 l34 c34 k34 a35 l35 if35 c35 k35 a36 sr36 sf36 l36 sk36 c36 k36 a37 pr37 pg37 pt37 l37 c37 k37 a38 pr38 pg38 pt38 l38 c38 k38 a39 l39 if39 c39 k39 a40 l40 if40 c40 k40 a41 l41 if41 c41 k41 a42 l42 if42 c42 k42 a43 l43 if43 c43 k43 a44 l44 if44 c44 k44 a45 l45 if45 c45 k45 a46 l46 if46 c46 k46 a47 l47 c47 k47 a48 l48 c48 k48 a49 l49 c49 k49 a50 l50 c50 k50 a51 l51 c51 k51 a52 l52 c52 k52 a53 l53 c53 k53 a54 l54 c54 k54 a55 l55 c55 k55 a56 l56 c56 k56 a57 l57 c57 k57 a58 l58 c58 k58 a59 l59 c59 k59 a60 l60 c60 k60 a61 l61 c61 k61 a62 l62 c62 k62 a63 l63 c63 k63 a64 l64 c64 k64 a65 l65 c65 k65 a66 l66 c66 k66 a67 l67 c67 k67 a68 l68 c68 k68 a69 l69 c69 k69 a70 l70 c70 k70 a71 l71 c71 k71 a72 l72 c72 k72 v0 v1 v2 eg0 eg1 el1 er1 esa1 ega1 egg1 ein1 ecl1 efn1 eti1 ekc1 ebe1 eve1 ety1 ehd1 eic1 ess1 eup1 emr1 emo1 elf1 ecd1 elc1 evs1 efi1 ece1 eg2 el2 er2 esa2 ega2 egg2 ein2 ecl2 efn2 eti2 ekc2 ebe2 eve2 ety2 ehd2 eic2 ess2 eup2 emr2 emo2 elf2 ecd2 elc2 evs2 efi2 ece2 eg3 el3 er3 esa3 ega3 egg3 ein3 ecl3 efn3 eti3 ekc3 ebe3 eve3 ety3 ehd3 eic3 ess3 eup3 emr3 emo3 elf3 ecd3 elc3 evs3 efi3 ece3 eg4 el4 er4 esa4 ega4 egg4 ein4 ecl4 efn4 eti4 ekc4 ebe4 eve4 ety4 ehd4 eic4 ess4 eup4 emr4 emo4 elf4 ecd4 elc4 evs4 efi4 ece4 eg5 el5 er5 esa5 ega5 egg5 ein5 ecl5 efn5 eti5 ekc5 ebe5 eve5 ety5 ehd5 eic5 ess5 eup5 emr5 emo5 elf5 ecd5 elc5 evs5 efi5 ece5 eg6 el6 er6 esa6 ega6 egg6 ein6 ecl6 efn6 eti6 ekc6 ebe6 eve6 ety6 ehd6 eic6 ess6 eup6 emr6 emo6 elf6 ecd6 elc6 evs6 efi6 ece6 z0 z1 z2 z3 z4 z5 z6 z7 z8 z9 z10 z11 z12 z13 z14 z15 z16 zsu z18 zop zsp ztk (by first | rfl | decide +kernel)
end
end Hk29
open PySem PySem.W PySem.Calls PyProof.Rows
set_option maxHeartbeats 0 in
theorem PySem.Challenge.cw_renamedhorn_k29_rings_apart_holds : PySem.Challenge.rw_renamedhorn_k29_rings_apart.Holds := by
  w_on; o_law
  refine HandSHeadRun.head_any (r := OpenLaw.row PySem.Challenge.rw_renamedhorn_k29_rings_apart) (q := Hk29.hqv) (H := Hk29.hhk) (ob := fun s => Hk.ob 5 Hk29.hex Hk29.hats (HandSHeadRun.getT s)) (M := 20000) (loose := Hk29.hnames) (d := HandSHeadRun.topDef (OpenLaw.row PySem.Challenge.rw_renamedhorn_k29_rings_apart).prog 75) (kwd := []) (fun s => Hk.ob_eq s)
    (by kernel_rfl) (fun s => by kernel_rfl) Hk29.hrun (by kernel_rfl) (by kernel_rfl) (by kernel_rfl) (by rfl) (by first | assumption | decide +kernel) (by decide +kernel) ⟨rfl, rfl, rfl, rfl, rfl, by decide +kernel⟩ ?hw ?hc
  case hw => w_witness2
  case hc =>
    refine L2.walk_ofE (l := PySem.Challenge.rw_renamedhorn_k29_rings_apart) (n := 63) (k := 19) (x := "_law_script") (CX := L2.CX0) rfl (by decide) (by kernel_rfl) ⟨rfl, by decide, by decide⟩ ?F (fun _ _ _ _ z => z)
    intro w mg fa h Y G hmg0
    obtain ⟨K, KX, c⟩ := Y
    have hmg : mg ("law" : PySem.Str) = some (.ref fa) := by
      have e : (HandSHeadRun.topDef (OpenLaw.row PySem.Challenge.rw_renamedhorn_k29_rings_apart).prog 75).name = ("law" : PySem.Str) := by kernel_rfl
      rw [← e]
      exact hmg0
    obtain ⟨fd, hb, hF⟩ := Hk29.hfacts (w := w) KX G hmg c
    exact ⟨K, fd, Hk29.spLaw K, KX, hb, fun H a ns hl _ hS => ⟨a, ns, rfl, hS, hl, fun _ => rfl⟩, hF⟩
