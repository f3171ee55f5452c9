import PyProof.Rows.All
import Wide.All
import OpenK.AllK
import Wide.FinOn
import PyProof.EqAt
import PyProof.EqKinds
import PyProof.TupleCall
import PyProof.FString
import PyProof.FString4
import KE.KExcSuper
import HandS.ForMost
import HandS.ForExc
import HandS.ExcIs
import KE.KExcIs
import HandS.IsInst
import HandS.ExcCtx
import HandS.HotCalls
import HandS.Evl
import HandS.Wide
import HandS.Defaults
import HandS.Gcd
import HandS.FStr
import HandS.Codes
import HandS.ClsMeth
import HandS.Replace
import HandS.ReplaceLit
import HandS.CallSlots
import HandS.ReplaceList
import HandS.Set
import HandS.SetFor
import HandS.SetTxt0
import HandS.Strs
import PyProof.Rows.SortStr
import PyProof.Rows.SortShellAny
import HandS.Comp
import HandS.Hot
import HandS.Star
import HandS.Style
import HandS.OwnIter
import HandS.IterNext
import HandS.TupAny
import PyProof.DictUpdate
import KE.KDictList
import HandS.Words
import KE.GoesEnumKw
import KE.GoesMore
import HandS.Walk
import HandS.DictComp
import KE.KEqDict
import HandS.SuiteRaise
import HandS.RaiseFrom
import KE.KAsSuite
import HandS.HeadEnd
import HandS.HeadHook1
import HandS.HeadHook2
import HandS.Head0
import HandS.Head1
import HandS.Head2
import HandS.StrMore
import HandS.Text
import HandS.Iter
import HandS.RaiseMore
import HandS.Rev
import HandS.Property
import HandS.Dict
import HandS.WordsDict
import HandS.Deep
import HandS.More
import PySem.Challenge.RW_renamedhorn_k21_bad_book_texts
set_option Elab.async false
set_option linter.all false
set_option maxRecDepth 100000
set_option maxHeartbeats 4000000
/-! Own error classes (over a class over ValueError) whose __init__ hands a text to super().__init__ and keeps one argument, or none. -/
namespace Er
open PySem PySem.W PySem.Calls PyProof.Rows PySem.HandSPX
/-- the text of __init__(self, f): super().__init__(me); self.f = f -/
def args1 (f : Str) (p1 p2 : Pos) : Arguments := { posonlyargs := [], args := [{ arg := "self", annotation := none, pos := p1 }, { arg := f, annotation := none, pos := p2 }], vararg := none, kwonlyargs := [], kw_defaults := [], kwarg := none, defaults := [] }
def supS (me : Expr) (a b c d e : Pos) : Stmt := .Expr (.Call (.Attribute (.Call (.Name "super" a) [] [] b) "__init__" c) [me] [] d) e
def keepS (f : Str) (a b c d : Pos) : Stmt := .Assign [.Attribute (.Name "self" a) f b] (.Name f c) d
def scope1 (f : Str) : Scope := { kind := .function, names := [(PySem.Str.ofString "self", .local), (f, .local), (PySem.Str.ofString "__class__", .free), (PySem.Str.ofString "super", .globalImplicit)], isGenerator := false, isCoroutine := false, more := [] }
/-- what the written part says of an error class at C with its __init__ at fI, its __class__ cell at cc, its code at cda -/
structure Cls1 (P : Program) (K : Frag) (mg : Str → Option Value) (nm : Str) (C fI : Addr) (pars : Arguments) (body : List Stmt) (sc : Scope) : Prop where
  gC : mg nm = some (.ref C)
  cls : ∃ n q N bs bm sn sub ab col dd k0 k1 k2 k3 k5, K.lookup C = some (excClassObj n q C N bs bm true sn sub ab col dd k0 k1 k2 k3 k5 "ValueError.__new__") ∧ refsVE bm = true
  sa : findIn K (.ref C) "__setattr__" = some (some (.builtin "object.__setattr__"))
  ga : findIn K (.ref C) "__getattribute__" = some (some (.builtin "BaseException.__getattribute__"))
  gg : findIn K (.ref C) "__getattr__" = some none
  iC : findIn K (.ref C) "__init__" = some (some (.ref fI))
  tC : typeIn K (.ref fI) = some (.type "function")
  kC : keepIn K (.ref C) = true
  exC : subIn K (.ref C) (.type "BaseException") = some true
  veC : subIn K (.ref C) (.type "ValueError") = some true
  tyC : typeIn K (.ref C) = some (.type "type")
  hdC : hasDictIn K C = true
  te : exmOne K (.ref C) (.ref C) = some true
  up : ks_superIn K C C "__init__" = some (some (.builtin "ValueError.__init__"))
  self : mroIn K C (.ref C) = some true
  op : nsIn K cStatics "thirdparty.any" = some none
  noS : mg "super" = none
  fn : ∃ (oc : Value) (od : Option Addr) (doc pm : Value) (an : Option Addr) (cda cc : Addr) (ct : Value) (osl : Array (Option Value)) (ccl cl : Value) (cdd cld : Option Addr) (vs : Array Value) (ccs csl : Array (Option Value)) (file : Str) (tf : Tok),
    K.lookup fI = some ⟨oc, od, .func (ksFn "__init__" (nm ++ ".__init__") pars body sc .none .none doc pm an (.ref cda) ct cc), osl⟩ ∧ codeIn K (.ref cda) (nm ++ ".__init__") = true ∧
    K.lookup cda = some ⟨ccl, cdd, .fields vs, ccs⟩ ∧ vs[2]? = some (.str file tf) ∧ ((P.main.file : Str) == file) = true ∧
    K.lookup cc = some ⟨cl, cld, .cell (some (.ref C)), csl⟩
  noM : (P.main.scope.names.lookup ("super" : Str)).isSome = false
/-- an expression that gives a text and makes nothing else, where the name x holds v -/
structure Msg (me : Expr) (x : Str) (v : Value) (sc : Scope) : Prop where
  call : ∀ (env : Env) (a b c d : Pos), (c.endLine == d.line) = true → ∃ pl : Sem Bool, eval (.Call (.Attribute (.Call (.Name "super" a) [] [] b) "__init__" c) [me] [] d) env = (do
      let ov ← attributeBase (.Call (.Name "super" a) [] [] b) "__init__" env (eval (.Call (.Name "super" a) [] [] b) env)
      standAt c.atName
      let (f, first) ← holding [ov] (getMethod ov "__init__" pl)
      callWith d f first (backTo d (starEach [me] env)) [])
  star : ∀ env : Env, starEach [me] env = (false, eval me env) :: starEach [] env
  swap : ∀ (env : Env) (a b c d : Pos) (n : Nat), swapsWith (.Call (.Attribute (.Call (.Name "super" a) [] [] b) "__init__" c) [me] [] d) none n env = pure false
  text : ∀ (prog : Program) (w : World) (A : Around) (E : Value → Shared → Prop) (env : Env) (s : Shared) (m : Str → Option Value) (Q : Value → Shared → Prop),
    env.scope = sc → s.heap.Ns env.locals m → m x = some v → (∀ y tk n, Q (.str y tk) { s with toks := n }) → wpAny (model prog w) A (eval me env) Q E s
theorem size1 (v : Value) : [v].length ≤ sizeLine := by
  rw [sizeLine_eq]
  exact (by decide : 1 ≤ 16777216)
theorem call_eq {o me : Expr} {nm : Str} {c d : Pos} {env : Env} (he : (c.endLine == d.line) = true) (hf : methodCallForm ([me].length + ([] : List Keyword).length) (backTo d (starEach [me] env)) (backToKw d (keywordEach [] env)) = true) :
    eval (.Call (.Attribute o nm c) [me] [] d) env = (do
      let ov ← attributeBase o nm env (eval o env)
      standAt c.atName
      let (f, first) ← holding [ov] (getMethod ov nm (do return (← importBound o env).getD true))
      callWith d f first (backTo d (starEach [me] env)) []) := by
  show (do
    let ov ← attributeBase o nm env (eval o env)
    standAt c.atName
    methodCall o nm c d env ov ([me].length + ([] : List Keyword).length) (backTo d (starEach [me] env)) (backToKw d (keywordEach [] env))) = _
  unfold methodCall
  rw [hf]
  unfold methodCallPos
  simp only [he, Bool.or_true, if_true]
  rfl
/-- an error of the class at S is what «except S» names -/
theorem exm_self {S : Addr} {K : Frag} (h1 : subIn K (.ref S) (.type "BaseException") = some true) (h2 : isClsIn K S = true) (h3 : typeIn K (.ref S) = some (.type "type")) (h4 : subIn K (.ref S) (.ref S) = some true) :
    exmOne K (.ref S) (.ref S) = some true := by
  have e1 : (subIn K (.ref S) (.type "BaseException") == some true) = true := by rw [h1] <;> rfl
  have e2 : ((clsIn K S).isSome && typeIn K (.ref S) == some (.type "type")) = true := by
    have h2' : (clsIn K S).isSome = true := h2
    rw [h2', h3] <;> rfl
  show (if (subIn K (.ref S) (.type "BaseException") == some true) = true then (if ((clsIn K S).isSome && typeIn K (.ref S) == some (.type "type")) = true then subIn K (.ref S) (.ref S) else none) else none) = some true
  rw [if_pos e1, if_pos e2]
  exact h4
section
variable {prog : Program} {w : World} {A : Around} {E : Value → Shared → Prop} {R : Result → Shared → Prop} {s : Shared} {K : Frag} {mg mb : Str → Option Value} {C fI : Addr} {nm f : Str}
/-- ValueError.__init__ bound to the exception, called -/
theorem call_mw {h : Heap} {g : Array GenState} {d : Drawn} {t : Nat} {os : OsState} {n q : Str} {N : Addr} {bs bm : List Value} {hdct : Bool} {sn : List Str} {sub : List Value} {ab : Bool} {col : Option Bool} {dd : Option Addr} {k0 k1 k2 k3 k5 : Option Value}
    {u e t0 : Addr} {rest : List Value} {Q : Value → Shared → Prop}
    (hC : h.get? C = some (excClassObj n q C N bs bm hdct sn sub ab col dd k0 k1 k2 k3 k5 "ValueError.__new__")) (he : h.get? e = some (excO C t0)) (hu : h.get? u = some (kxs_mw "ValueError.__init__" e)) (hrest : rest.length ≤ sizeLine)
    (hq : ∀ h' t1, (∀ b o, b ≠ e → h.get? b = some o → h'.get? b = some o) → h'.get? e = some (excO C t1) → Q .none ⟨h', g, d, t, os⟩) :
    wpAny (model prog w) A (call (.ref u) rest) Q E ⟨h, g, d, t, os⟩ := by
  refine wpAny_call
    (codeAny_of_tree ?_)
  show wpAny _ A.in1
    (callAny (.ref u) ⟨rest, []⟩) _ _ _
  simp only
    [callAny]
  refine wpAny_bind
    (wpAny_load hu ?_)
  simp only [kxs_mw, show (Value.type "method-wrapper" == Value.type "method" || Value.type "method-wrapper" == Value.type "builtin_function_or_method" ||
    Value.type "method-wrapper" == Value.type "method-wrapper") = true by decide, if_true]
  refine KFB.if_so (by decide) ?_
  refine wpAny_bind
    (check_bound_init PySem.F.excBase_ValueError.toExcCallFacts hC he rfl ?_)
  refine wpAny_bind (wpAny_pure
    (wpAny_pure ?_))
  refine ⟨plainId_quiet PySem.F.excBase_ValueError.init.plain _, codeAny_builtin PySem.F.excBase_ValueError.initEntry ?_⟩
  exact exc_init_tree (cls := .ref C) (t0 := t0) (dv := none) (c2 := .none) (c3 := .none) (b4 := .bool false) he hrest
    (fun h' k e' _ => hq h' _ k e')
/-- what super().__init__(..) leaves of a fresh exception at x -/
structure Sup (h h' : Heap) (x C : Addr) : Prop where
  keep : ∀ b o, b ≠ x → h.get? b = some o → h'.get? b = some o
  obj : ∃ t1, h'.get? x = some (excO C t1)
theorem sup_body {pars : Arguments} {body0 body : List Stmt} {sc : Scope} {me : Expr} {a b c d e : Pos} {env : Env} {L t0 x : Addr} {m : Str → Option Value} {y : Str} {v : Value} {rest : List Stmt} {Q : Flow → Shared → Prop} {ar : Arg} {h : Heap} {g : Array GenState} {dr : Drawn} {t : Nat} {os : OsState}
    (T : Cls1 prog K mg nm C fI pars body0 sc) (X : K.In h) (hg : h.Ns mainGlobals mg) (hb : h.Ns builtinsNs mb) (hbb : ∀ z : Str, z ≠ "__name__" → mb z = bootBuiltins z)
    (hL : h.Ns L m) (hx : h.get? x = some (excO C t0)) (hself : m "self" = some (.ref x)) (hp : (pars.posonlyargs ++ pars.args).head? = some ar) (hpa : ar.arg = "self") (hM : Msg me y v sc) (hmy : m y = some v)
    (henv : ∃ qual cda cc ccl cl cdd cld vs ccs csl file tf, env = ksEnv qual sc L fI (.ref cda) cc ∧ K.lookup cda = some ⟨ccl, cdd, .fields vs, ccs⟩ ∧ vs[2]? = some (.str file tf) ∧ ((prog.main.file : Str) == file) = true ∧
      K.lookup cc = some ⟨cl, cld, .cell (some (.ref C)), csl⟩)
    (hks : sc.names.lookup ("super" : Str) = some .globalImplicit) (hkc : sc.names.lookup ("__class__" : Str) = some .free) (hka : sc.names.lookup ("self" : Str) = some .local) (hk : sc.kind = .function) (hcd : (c.endLine == d.line) = true)
    (hq : ∀ h' tk, Sup h h' x C → _root_.PySem.wpAt (model prog w) A (.func body env) (execs rest env) Q E ⟨h', g, dr, tk, os⟩) :
    _root_.PySem.wpAt (model prog w) A (.func body env) (execs (supS me a b c d e :: rest) env) Q E ⟨h, g, dr, t, os⟩ := by
  obtain ⟨qual, cda, cc, ccl, cl, cdd, cld, vs, ccs, csl, file, tf, rfl, hcode, hvs, hfile, hcell⟩ := henv
  obtain ⟨oc, od, doc, pm, an, cda', cc', ct, osl, ccl', cl', cdd', cld', vs', ccs', csl', file', tf', hf, _⟩ := T.fn
  obtain ⟨n, q, N, bs, bm, sn, sub, ab, col, dd, k0, k1, k2, k3, k5, hC, hbm⟩ := T.cls
  have hcl : clsIn K C = some { name := n, bases := bs, mro := .ref C :: bm, ns := N, qualname := q, hasDict := true, slotNames := sn, subclasses := sub, abstract := ab, collection := col, hasDel := false } := by unfold clsIn; rw [hC] <;> rfl
  have hup : alongIn K "__init__" (((Value.ref C :: bm).dropWhile (· != .ref C)).drop 1) = some (some (.builtin "ValueError.__init__")) := by
    have z := T.up
    unfold ks_superIn at z
    rw [hcl] at z
    exact z
  obtain ⟨pl, hcall⟩ := hM.call (ksEnv qual sc L fI (.ref cda) cc) a b c d hcd
  refine ks_wpAt_execs_cons (ks_wpAt_Expr_any (ks_wpAt_MethodCall (pl := pl) ?_ hcall) (by show (sc.kind == .module && _) = false; rw [hk]; rfl) (hM.swap _ _ _ _ _ _))
  refine ks_wpAt_super_base (fd := ksFn "__init__" (nm ++ ".__init__") pars body0 sc .none .none doc pm an (.ref cda') ct cc') hks hkc (by decide) rfl (X _ _ hf) rfl hp rfl (X _ _ hcode) rfl hvs hfile T.noM ?_
  refine ks_loadName_global hk hks (loadGlobal_builtin (env := ksEnv qual sc L fI (.ref cda) cc) hg T.noS hb ((hbb _ (by decide)).trans (show bootBuiltins "super" = some (.type "super") by first | rfl | kernel_rfl)) ⟨rfl, ?_⟩)
  refine wpAny_loadName_free hk hkc (c := cc) (v := .ref C) rfl ⟨_, X _ _ hcell, rfl⟩ ?_
  rw [hpa]
  refine wpAny_loadName_local hk hka hL hself ?_
  refine ks_wpAny_isType_cls (X _ _ hC) rfl ⟨rfl, ?_⟩
  have I : InstAt h x (excO C t0) C none := ⟨hx, rfl, rfl, trivial⟩
  refine ks_wpAny_call_super (X _ _ hC) rfl hx rfl (fun c z => by cases z) (looks_mroIn X T.self) (fun h2 hso kk => ?_)
  have X2 : K.In h2 := X.keeps kk
  have hx2 := kk _ _ hx
  have I2 : InstAt h2 x (excO C t0) C none := ⟨hx2, rfl, rfl, trivial⟩
  refine kxs_getMethod kxs_ValueError hso (looks_opaque X2 T.op) (l₀ := .ref C :: bm) (fun A Q E s k q => wpAny_bind ((looks_clsIn X2 hcl) A _ E s k (wpAny_pure q))) rfl X2 hup (I2.type.andThen (looks_subIn X2 T.veC)) (ks_ne X2 I2 hcl) (by decide) ?_
  have kk3 : ∀ b o, h2.get? b = some o → (h2.push (kxs_mw "ValueError.__init__" x)).get? b = some o := fun b o z => Heap.get?_push_of_some _ z
  have hu : (h2.push (kxs_mw "ValueError.__init__" x)).get? h2.objs.size = some (kxs_mw "ValueError.__init__" x) := Heap.get?_push_at rfl rfl
  have hLx : L ≠ x := fun z => by
    obtain ⟨oL, es, ep, hoL, hdL, _⟩ := hL
    rw [z, hx] at hoL
    have z2 := Option.some.inj hoL
    subst z2
    cases hdL
  have he1 := hM.star (ksEnv qual sc L fI (.ref cda) cc)
  refine kxs_callWith (i := "ValueError.__init__") (x := x) (by rw [he1]; rfl) ?_
  rw [he1]
  refine evalArgs_plain ?_
  refine spliced_cons ?_
  refine hM.text _ _ _ _ _ _ m _ rfl (hL.keeps fun b o z => kk3 b o (kk b o z)) hmy (fun y' tk' n' => ?_)
  refine spliced_nil ?_
  refine ⟨hu, ?_⟩
  refine call_mw (X2.keeps kk3 _ _ hC) (kk3 _ _ hx2) hu (size1 _) (fun h' t1 k' e' => ?_)
  exact hq h' _ ⟨fun b o nb z => k' b o nb (kk3 b o (kk b o z)), t1, e'⟩
theorem ldL {env : Env} {m : Str → Option Value} {x : Str} {pos : Pos} {v : Value} {Q : Value → Shared → Prop} (hn : s.heap.Ns env.locals m) (hv : m x = some v) (hk : env.scope.kind = .function) (hl : env.kindOf x = some .local) (hd : (x == ("__debug__" : Str)) = false) (h : Q v s) :
    wpAny (model prog w) A (eval (.Name x pos) env) Q E s := wpAny_Name (wpAny_loadName_local hk hl hn hv h) hd
/-- how a field's name stands in such a text -/
structure Fld (f : Str) : Prop where
  bind : ∀ (q : Str) (p1 p2 : Pos) (body : List Stmt) (dV kV doc pm : Value) (an : Option Addr) (cd ct : Value) (cc : Addr) (x v : Value), bindArgs (ksFn "__init__" q (args1 f p1 p2) body (scope1 f) .none .none doc pm an cd ct cc) ⟨[x, v], []⟩ = pure [(("self" : Str), x), (f, v)]
  ne : (f == ("self" : Str)) = false
  dbg : (f == ("__debug__" : Str)) = false
  kf : (scope1 f).names.lookup f = some .local
  ks : (scope1 f).names.lookup ("super" : Str) = some .globalImplicit
  kc : (scope1 f).names.lookup ("__class__" : Str) = some .free
  cell : ∀ x ∈ (scope1 f).names, x.2 ≠ .cell
/-- what __init__ leaves of a fresh exception at x: a dict at dx that holds the field -/
structure End1 (h h' : Heap) (x C dx : Addr) (f : Str) (v : Value) : Prop where
  keep : ∀ b o, b ≠ x → h.get? b = some o → h'.get? b = some o
  obj : ∃ t1, h'.get? x = some { cls := .ref C, dict := some dx, data := .fields #[.ref t1, .none, .none, .none, .bool false, .none] }
  big : h.objs.size ≤ dx
  ne : dx ≠ x
  ns : h'.Ns1 dx (fun y => if y = f then some v else none)
/-- the __init__ of one argument -/
theorem init1 {f : Str} {p1 p2 a b c d e a' b' c' d' : Pos} {me : Expr} {x t0 : Addr} {v : Value}
    (T : Cls1 prog K mg nm C fI (args1 f p1 p2) [supS me a b c d e, keepS f a' b' c' d'] (scope1 f)) (X : K.In s.heap) (hg : s.heap.Ns mainGlobals mg) (hb : s.heap.Ns builtinsNs mb) (hbb : ∀ z : Str, z ≠ "__name__" → mb z = bootBuiltins z)
    (hlim : s.heap.NoLimit) (hx : s.heap.get? x = some (excO C t0)) (hnx : K.lookup x = none) (hroom : A.depth < recursionLimit) (hM : Msg me f v (scope1 f)) (hcdp : (c.endLine == d.line) = true) (hF : Fld f) (noN : findIn K (.ref C) f = some none)
    (hq : ∀ h' tk dx, End1 s.heap h' x C dx f v → R (.ok (.ret .none)) { s with heap := h', toks := tk }) :
    codeAny (model prog w) A (.call (.ref fI) ⟨[.ref x, v], []⟩) R s := by
  obtain ⟨oc, od, doc, pm, an, cda, cc, ct, osl, ccl, cl, cdd, cld, vs, ccs, csl, file, tf, hf, hcd, hcode, hvs, hfile, hcell⟩ := T.fn
  obtain ⟨n, q, N, bs, bm, sn, sub, ab, col, dd, k0, k1, k2, k3, k5, hC, hbm⟩ := T.cls
  have hcl : clsIn K C = some { name := n, bases := bs, mro := .ref C :: bm, ns := N, qualname := q, hasDict := true, slotNames := sn, subclasses := sub, abstract := ab, collection := col, hasDel := false } := by unfold clsIn; rw [hC] <;> rfl
  have l1 : (scope1 f).names.lookup ("self" : Str) = some .local := rfl
  have fs : ¬ f = ("self" : Str) := by simpa using hF.ne
  refine ks_codeAny_call_defAt (fd := ksFn "__init__" (nm ++ ".__init__") (args1 f p1 p2) [supS me a b c d e, keepS f a' b' c' d'] (scope1 f) .none .none doc pm an (.ref cda) ct cc) (body := [supS me a b c d e, keepS f a' b' c' d'])
    (binds := [(("self" : Str), Value.ref x), (f, v)]) hroom (X _ _ hf) rfl hlim (codeRec_of X hcd) rfl (BindsTo.of_eq (hF.bind _ _ _ _ .none .none _ _ _ _ _ _ _ _)) hF.cell (fun y hy => ?_) (fun h₁ hns kk => ?_)
  · rcases List.mem_cons.mp hy with e | hy
    · rw [e]
      exact l1
    · rw [List.mem_singleton.mp hy]
      exact hF.kf
  · obtain ⟨hp, g, dr, tk, os⟩ := s
    have X1 : K.In h₁ := X.keeps kk
    have ms : (fun y : Str => ([(("self" : Str), Value.ref x), (f, v)]).reverse.lookup y) ("self" : Str) = some (.ref x) := by
      show List.lookup ("self" : Str) [(f, v), (("self" : Str), Value.ref x)] = some (.ref x)
      have z : (("self" : Str) == f) = false := by
        rw [beq_eq_false_iff_ne]
        exact fun z => fs z.symm
      rw [List.lookup_cons, z]
      simp [List.lookup]
    have mf : (fun y : Str => ([(("self" : Str), Value.ref x), (f, v)]).reverse.lookup y) f = some v := by
      show List.lookup f [(f, v), (("self" : Str), Value.ref x)] = some v
      simp [List.lookup]
    have hL : hp.objs.size ≠ x := Nat.ne_of_gt (Heap.lt_size hx)
    refine sup_body (mb := mb) T X1 (hg.keeps kk) (hb.keeps kk) hbb hns (kk _ _ hx) ms rfl rfl hM mf ⟨_, cda, cc, ccl, cl, cdd, cld, vs, ccs, csl, file, tf, rfl, hcode, hvs, hfile, hcell⟩ hF.ks hF.kc l1 rfl hcdp (fun h2 tk2 S => ?_)
    obtain ⟨t1, hx2⟩ := S.obj
    have hns2 : h2.Ns hp.objs.size _ := hns.at fun o z => S.keep _ _ hL z
    have X2 : K.In h2 := fun b o z => S.keep b o (fun y => by
      rw [y, hnx] at z
      cases z) (X1 b o z)
    refine ks_wpAt_execs_cons (wpAt_of_wpAny ?_)
    refine plainObj_wpAny_Assign_Attribute ?_
    refine ldL (v := v) hns2 mf rfl hF.kf hF.dbg (ldL (v := .ref x) hns2 ms rfl l1 (by decide) ?_)
    refine set_plain X2 (ox := excO C t1) (od := none) ⟨hx2, rfl, rfl, trivial⟩ T.sa ?_
    refine exc_osa X2 hx2 hcl (show refsVE (.ref C :: bm) = true from hbm) rfl noN (fun h3 tk3 dx k3 dn dne hx3 hn3 => ?_)
    refine wpAt_of_wpAny (wpAny_execs_nil (hq h3 tk3 dx ⟨fun b o nb z => k3 b o nb (S.keep b o nb (kk b o z)), ⟨t1, hx3⟩, ?_, dne, hn3⟩))
    obtain ⟨oL, _, _, hoL, _⟩ := hns2
    exact Nat.le_trans (Nat.le_of_lt (Heap.lt_size hoL)) dn
/-- a made error of one argument -/
structure Own1 (h h' : Heap) (e C d : Addr) (f : Str) (v : Value) : Prop where
  keep : ∀ b o, h.get? b = some o → h'.get? b = some o
  new : h.objs.size ≤ e
  obj : ∃ oe vs, h'.get? e = some oe ∧ oe.cls = .ref C ∧ oe.dict = some d ∧ oe.data = .fields vs ∧ vs[1]? = some .none ∧ vs[2]? = some .none
  big : h.objs.size ≤ d
  ne : d ≠ e
  ns : h'.Ns1 d (fun y => if y = f then some v else none)
theorem fresh_of {hp : Heap} (X : K.In hp) {n : Nat} (h : hp.objs.size ≤ n) : K.lookup n = none := by
  cases e : K.lookup n with
  | none => rfl
  | some o => exact absurd (Nat.lt_of_lt_of_le (Heap.lt_size (X _ _ e)) h) (Nat.lt_irrefl _)
theorem made1 {f : Str} {p1 p2 a b c d e a' b' c' d' : Pos} {me : Expr} {v : Value}
    (T : Cls1 prog K mg nm C fI (args1 f p1 p2) [supS me a b c d e, keepS f a' b' c' d'] (scope1 f)) (X : K.In s.heap) (hg : s.heap.Ns mainGlobals mg) (hb : s.heap.Ns builtinsNs mb) (hbb : ∀ z : Str, z ≠ "__name__" → mb z = bootBuiltins z)
    (hlim : s.heap.NoLimit) (hroom : A.depth + 1 < recursionLimit) (hM : Msg me f v (scope1 f)) (hcdp : (c.endLine == d.line) = true) (hF : Fld f) (noN : findIn K (.ref C) f = some none)
    (hq : ∀ h' tk x dx, Own1 s.heap h' x C dx f v → R (.ok (.ret (.ref x))) { s with heap := h', toks := tk }) : codeAny (model prog w) A (.call (.ref C) ⟨[v], []⟩) R s := by
  obtain ⟨n, q, N, bs, bm, sn, sub, ab, col, dd, k0, k1, k2, k3, k5, hC, hbm⟩ := T.cls
  obtain ⟨hp, g, dr, tk, os⟩ := s
  have k : ∀ b o, hp.get? b = some o → ((hp.push (kdv_tup [v])).push (excO C hp.objs.size)).get? b = some o := fun b o z => Heap.get?_push_of_some _ (Heap.get?_push_of_some _ z)
  have hget : ((hp.push (kdv_tup [v])).push (excO C hp.objs.size)).get? (hp.objs.size + 1) = some (excO C hp.objs.size) := by heap_get
  refine call_own PySem.F.excBase_ValueError (fun Y => refsVE_contains Y bm hbm) (X _ _ hC) (looks_findIn X T.iC) (fun self => bind_fn X self T.tC) (size1 v) ?_
  refine init1 (mb := mb) (s := ⟨(hp.push (kdv_tup [v])).push (excO C hp.objs.size), g, dr, tk, os⟩) T (X.keeps k) (hg.keeps k) (hb.keeps k) hbb (hlim.keeps k) hget (fresh_of X (Nat.le_succ _)) hroom hM hcdp hF noN fun h' tk' dx Z => ?_
  have old : ∀ b o, hp.get? b = some o → h'.get? b = some o := fun b o z => Z.keep b o (Nat.ne_of_lt (Nat.lt_succ_of_lt (Heap.lt_size z))) (k b o z)
  have z : hp.objs.size + 1 + 1 ≤ dx := by
    have q := Z.big
    rw [Heap.size_push, Heap.size_push] at q
    exact q
  obtain ⟨t1, ho⟩ := Z.obj
  exact ⟨rfl, hq h' tk' (hp.objs.size + 1) dx ⟨old, Nat.le_succ _, ⟨_, _, ho, rfl, rfl, rfl, rfl, rfl⟩, Nat.le_trans (Nat.le_trans (Nat.le_succ _) (Nat.le_succ _)) z, Z.ne, Z.ns⟩⟩
end
/-! ### the texts of the messages -/
section
variable {f : Str} {sc : Scope}
/-- one part behind another, the field in {..!r} or {..}: a text | an int -/
theorem part_s {prog : Program} {w : World} {A : Around} {E : Value → Shared → Prop} {env : Env} {s : Shared} {m : Str → Option Value} {y : Str} {t : Tok} {p q : Pos} {Q : Value → Shared → Prop} (hF : sc.names.lookup f = some .local) (hk : sc.kind = .function) (hd : (f == ("__debug__" : Str)) = false) (he : env.scope = sc)
    (hn : s.heap.Ns env.locals m) (hv : m f = some (.str y t)) (hz : y.length ≤ sizeLine) (h : ∀ tk n, Q (.str y tk) { s with toks := n }) : wpAny (model prog w) A (eval (.FormattedValue (.Name f p) (-1) none q) env) Q E s := by
  refine wpAny_FormattedValue_plain (ldL hn hv (by rw [he]; exact hk) (by show env.scope.names.lookup f = _; rw [he]; exact hF) hd ?_)
  exact wpAny_formatField_str (h _ s.toks) (h _ _) hz
theorem part_r {prog : Program} {w : World} {A : Around} {E : Value → Shared → Prop} {env : Env} {s : Shared} {m : Str → Option Value} {y : Str} {t : Tok} {p q : Pos} {Q : Value → Shared → Prop} (hF : sc.names.lookup f = some .local) (hk : sc.kind = .function) (hd : (f == ("__debug__" : Str)) = false) (he : env.scope = sc)
    (hn : s.heap.Ns env.locals m) (hv : m f = some (.str y t)) (hz : (reprText y).length ≤ sizeLine) (h : ∀ tk n, Q (.str (reprText y) tk) { s with toks := n }) : wpAny (model prog w) A (eval (.FormattedValue (.Name f p) 114 none q) env) Q E s := by
  refine wpAny_FormattedValue_repr (ldL hn hv (by rw [he]; exact hk) (by show env.scope.names.lookup f = _; rw [he]; exact hF) hd ?_)
  exact pyReprObj_str (wpAny_formatField_str (h _ _) (h _ _) hz) hz
theorem part_i {prog : Program} {w : World} {A : Around} {E : Value → Shared → Prop} {env : Env} {s : Shared} {m : Str → Option Value} {i : Int} {t : Tok} {p q : Pos} {Q : Value → Shared → Prop} (hF : sc.names.lookup f = some .local) (hk : sc.kind = .function) (hd : (f == ("__debug__" : Str)) = false) (he : env.scope = sc)
    (hn : s.heap.Ns env.locals m) (hv : m f = some (.int i t)) (hz : i.natAbs.log2 < 1920) (h : ∀ tk n, Q (.str (toString i) tk) { s with toks := n }) : wpAny (model prog w) A (eval (.FormattedValue (.Name f p) (-1) none q) env) Q E s := by
  refine wpAny_FormattedValue_plain (ldL hn hv (by rw [he]; exact hk) (by show env.scope.names.lookup f = _; rw [he]; exact hF) hd ?_)
  exact wpAny_formatField_int hz (h _ _)
theorem app_le {a b : Str} {n m : Nat} (h1 : a.length ≤ n) (h2 : b.length ≤ m) : (a ++ b).length ≤ n + m := by
  have e : (a ++ b).length = a.length + b.length := Array.size_append ..
  omega
/-- f'c{f}' of an int -/
theorem msg_ci {i : Int} {t : Tok} {c : Str} {p q p1 p2 : Pos} {k : Nat} (hF : Fld f) (hc : c.length ≤ 1000) (hz : i.natAbs.log2 < 1920) (hs : (toString i : Str).length ≤ 1000) : Msg (.JoinedStr [.Constant (.str c) k p1, .FormattedValue (.Name f p) (-1) none q] p2) f (.int i t) (scope1 f) where
  call := fun env a b c' d e => ⟨_, call_eq e rfl⟩
  star := fun env => rfl
  swap := fun _ _ _ _ _ _ => rfl
  text := fun prog w A E env s m Q he hn hv h => by
    have z0 : (Str.empty ++ c).length ≤ 0 + 1000 := app_le (Nat.le_refl _) hc
    have z1 : (Str.empty ++ c ++ (toString i : Str)).length ≤ 0 + 1000 + 1000 := app_le z0 hs
    have b0 : (2000 : Nat) ≤ sizeLine := by rw [sizeLine_eq]; decide
    refine wpAny_JoinedStr ?_
    refine wpAny_Constant_str ⟨c, _, rfl, Nat.le_trans z0 (Nat.le_trans (by decide) b0), ?_⟩
    refine part_i (sc := scope1 f) hF.kf rfl hF.dbg he (s := { s with toks := s.toks + 1 }) hn hv hz fun tk n => ⟨_, _, rfl, Nat.le_trans z1 b0, ?_⟩
    exact ⟨Nat.le_trans z1 b0, h _ _ _⟩
/-- f'{f}c' of a text -/
theorem msg_sc {y : Str} {t : Tok} {c : Str} {p q p1 p2 : Pos} {k : Nat} (hF : Fld f) (hc : c.length ≤ 1000) (hz : y.length ≤ 1000) : Msg (.JoinedStr [.FormattedValue (.Name f p) (-1) none q, .Constant (.str c) k p1] p2) f (.str y t) (scope1 f) where
  call := fun env a b c' d e => ⟨_, call_eq e rfl⟩
  star := fun env => rfl
  swap := fun _ _ _ _ _ _ => rfl
  text := fun prog w A E env s m Q he hn hv h => by
    have z0 : (Str.empty ++ y).length ≤ 0 + 1000 := app_le (Nat.le_refl _) hz
    have z1 : (Str.empty ++ y ++ c).length ≤ 0 + 1000 + 1000 := app_le z0 hc
    have b0 : (2000 : Nat) ≤ sizeLine := by rw [sizeLine_eq]; decide
    refine wpAny_JoinedStr ?_
    refine part_s (sc := scope1 f) hF.kf rfl hF.dbg he hn hv (Nat.le_trans hz (Nat.le_trans (by decide) b0)) fun tk n => ⟨_, _, rfl, Nat.le_trans z0 (Nat.le_trans (by decide) b0), ?_⟩
    refine wpAny_Constant_str ⟨c, _, rfl, Nat.le_trans z1 b0, ?_⟩
    exact ⟨Nat.le_trans z1 b0, h _ _ _⟩
end
end Er
namespace L2
open PySem PySem.Spec PyProof.Rows Er
/-- isinstance(e, c), e the error that the suite holds, with a dict of its own -/
def rIsF (K : PySem.W.Frag) (D a : Addr) (cls : Value) (dd : Option Addr) : List V → Hp → VK → Prop := fun xs H Q => cls = .ref D ∧ ∃ (c : V) (cv : Value) (b : Bool), xs = [.ref a, c] ∧ (∀ u, RelV c u → u = cv) ∧ (∀ dx, dd = some dx → ∃ fs, H dx = some (.xd fs)) ∧ PySem.W.kitOne K (.ref D) cv = some b ∧ Q (.bl b) H
theorem call_isF {X : Cx} {a D : Addr} {cls : Value} {dd : Option Addr} {oe : Obj} {pn : List (Addr × Obj)} (C : ExcC X.K D) (hz : Zc cls dd oe) (hf : ∃ vs, oe.data = .fields vs) : CallR (X.suite a ((a, oe) :: pn)) (.builtin "isinstance") (rIsF X.K D a cls dd) := by
  intro pins s σ H xs us Q I r h
  obtain ⟨ecls, c, cv, b, rfl, hcv, hdd, e, q⟩ := h
  subst ecls
  cases r with
  | cons rx rr =>
    cases rr with
    | cons rt rr =>
      cases rr
      cases rx
      have ec := hcv _ rt
      subst ec
      obtain ⟨hget, _⟩ := I.pin (a, oe) (List.mem_append.mpr (.inl List.mem_cons_self))
      obtain ⟨vs, hv⟩ := hf
      have hcl : (PySem.W.clsIn X.K D).isSome = true := by
        obtain ⟨cd, hc, _⟩ := PySem.W.any_some C.hd
        rw [hc]
        rfl
      have J : ∃ od, PySem.W.InstAt s.heap a oe D od := by
        obtain ⟨oc, od, oda, osl⟩ := oe
        obtain ⟨h1, h2⟩ := hz
        dsimp only at h1 h2 hv
        subst h1 h2 hv
        cases od with
        | none => exact ⟨none, hget, rfl, rfl, trivial⟩
        | some dx =>
          obtain ⟨fs, hx⟩ := hdd dx rfl
          have ok : ObjOk X.prog X.w H s.heap dx (.xd fs) := I.hok dx _ hx
          obtain ⟨mA, hns, hr⟩ := ok
          obtain ⟨od, ho, hl⟩ := lookIn_ns hns
          exact ⟨some od, hget, rfl, rfl, ho⟩
      obtain ⟨od, J⟩ := J
      exact PySem.W.kia_one (PySem.W.kitx_exc hcl C.hg C.hk C.hs C.ha C.hn C.ht C.hm) I.kIn J e (fun z => nomatch z) fun tk => ⟨.bl b, H, I.kept (t' := tk) fun _ _ z => z, rfl, q⟩
theorem relO_f1 {v : V} {v' : Value} (r : RelV v v') (f g : Str) : RelO (List.lookup g [(f, v)]) (if g = f then some v' else none) := by
  by_cases hw : g = f
  · rw [if_pos hw, hw]
    have q : List.lookup f [(f, v)] = some v := by simp [List.lookup]
    rw [q]
    exact r
  · rw [if_neg hw]
    have qw : (g == f) = false := by simpa using hw
    have q2 : List.lookup g [(f, v)] = none := by simp [List.lookup, qw]
    rw [q2]
    trivial
section
variable {X : Cx} {C fI : Addr} {nm f : Str} {me : Expr} {p1 p2 a b c d e a' b' c' d' : Pos}
def tMk1 (C : Addr) (f : Str) (me : Expr) (ta : TA) : St → Hp → XK → Prop := fun σ H Q => ta σ H fun vs H1 => ∃ v, vs = [v] ∧ (∀ u, RelV v u → Msg me f u (scope1 f)) ∧ ∀ d, H1 d = none → Q (.ref C) (some d) (upd H1 d (.xd [(f, v)]))
theorem pmk1 {x : Expr} {ta : TA} {p pos : Pos} {k : Nat} (T : Cls1 X.prog X.K X.mg nm C fI (args1 f p1 p2) [supS me a b c d e, keepS f a' b' c' d'] (scope1 f)) (hcdp : (c.endLine == d.line) = true) (hF : Fld f) (noN : PySem.W.findIn X.K (.ref C) f = some none) (hr : Room k X.A) (ha : PA X [x] ta) (hg : Gl X nm) (hdb : (nm == ("__debug__" : Str)) = false)
    (he : starEach (x :: []) X.env = (false, eval x X.env) :: starEach [] X.env := by rfl) (hpl : (backTo pos (starEach [] X.env)).any (·.1) = false := by rfl) :
    L2N.PMk X (.Call (.Name nm p) [x] [] pos) (tMk1 C f me ta) := by
  intro pins s σ H Q I h
  refine wpAny_Call_Name_kw (ld_glob I hg T.gC ?_ hdb)
  refine PySem.W.callWith_K (h₀ := X.base) I.ok.mod.kin T.kC (thn (ha.run pos pins s σ H _ I h) fun us s1 hh => ?_) he hpl
  obtain ⟨vs, H1, I1, r1, v, ev, hM, q1⟩ := hh
  subst ev
  refine ⟨I1.kIn, ?_⟩
  cases r1 with
  | cons rv rn =>
    rename_i v' us'
    cases rn
    show wpAny _ _ (call (.ref C) [v']) _ _ _
    have hlim := I1.nolimit
    obtain ⟨mb, hb1, hb2⟩ := I1.mod.blt
    have hgl := I1.mod.glob.keeps I1.bk
    have hbl := hb1.keeps I1.bk
    obtain ⟨hp, g, dr, tk, os⟩ := s1
    refine wpAny_call (made1 (mb := mb) T I1.kIn hgl hbl hb2 hlim (by have := hr.dp; omega) (hM v' rv) hcdp hF noN fun h' tk' e d M => ?_)
    show L2N.MkP X pins σ Q (.ref e) ⟨h', g, dr, tk', os⟩
    obtain ⟨oe, fv, hoe, hc, hd, hdat, h1, h2⟩ := M.obj
    have hz : L2N.Zn (.ref C) _ oe := ⟨hc, hd, fun vs' e' => by
      rw [hdat] at e'
      cases e'
      exact h2⟩
    have hns := M.ns
    obtain ⟨G', g1, g2⟩ := restrict h' fun b => decide (b ≠ e)
    have gk : ∀ b, b ≠ e → G'.get? b = h'.get? b := fun b hb => g1 b (decide_eq_true hb)
    have ge : G'.get? e = none := g2 e (by simp)
    have old : ∀ b o, hp.get? b = some o → G'.get? b = some o := fun b o q => (gk b (Nat.ne_of_lt (Nat.lt_of_lt_of_le (Heap.lt_size q) M.new))).trans (M.keep b o q)
    have ob : ObjOk X.prog X.w (upd H1 d (.xd [(f, v)])) G' d (.xd [(f, v)]) :=
      ⟨_, hns.at (fun o q => (gk d M.ne).trans q), fun g => relO_f1 rv f g⟩
    have J : Inv X pins σ (upd H1 d (.xd [(f, v)])) ⟨G', g, dr, tk', os⟩ := I1.laid (t' := tk') old M.big ob
    refine ⟨e, oe, fv, ⟨G', g, dr, tk', os⟩, _, .ref C, some d, rfl, J, fun b o q => ?_, ge, hoe, hz, hdat, h1, ?_, rfl, I1.bare, raises_own T.exC T.tyC, q1 d (I1.hok.fresh M.big)⟩
    · by_cases hb : b = e
      · have q' : G'.get? b = some o := q
        rw [hb, ge] at q'
        cases q'
      · exact (gk b hb).symm.trans q
    · rw [upd_ne (Ne.symm M.ne)]
      exact I1.hok.fresh M.new
/-- e.f, e the error that the suite holds (at a0; its class cls, its dict dd) -/
def tByF (C : Addr) (a0 : Addr) (cls : Value) (dd : Option Addr) (f : Str) (te : TE) : TE := fun σ H Q => te σ H fun x H1 => x = .ref a0 ∧ cls = .ref C ∧ ∃ (dx : Addr) (v : V), dd = some dx ∧ H1 dx = some (.xd [(f, v)]) ∧ Q v H1
theorem pe_byF {pars : Arguments} {body : List Stmt} {sc : Scope} {a0 : Addr} {oe : Obj} {cls : Value} {dd : Option Addr} {pn : List (Addr × Obj)} {x : Expr} {te : TE} {pos : Pos} (T : Cls1 X.prog X.K X.mg nm C fI pars body sc) (noN : PySem.W.findIn X.K (.ref C) f = some none) (hz : Zc cls dd oe) (hf : ∃ vs, oe.data = .fields vs) (he : PE (X.suite a0 ((a0, oe) :: pn)) x te)
    (hb : attributeBase x f X.env (eval x X.env) = eval x X.env := by rfl) :
    PE (X.suite a0 ((a0, oe) :: pn)) (.Attribute x f pos) (tByF C a0 cls dd f te) := by
  refine ⟨fun pins s σ H Q I h => ?_⟩
  refine attr_of hb (thn (he.run pins s σ H _ I h) fun u s1 hh => ?_)
  obtain ⟨x, H1, I1, rx, ex, ec, dx, v, ed, ea, q⟩ := hh
  subst ex
  obtain rfl : u = Value.ref a0 := rx
  subst ec
  subst ed
  obtain ⟨ha, _⟩ := I1.pin (a0, oe) (List.mem_append_left _ List.mem_cons_self)
  obtain ⟨vs, hd⟩ := hf
  have hx : ObjOk X.prog X.w H1 s1.heap dx (.xd [(f, v)]) := I1.hok dx _ ea
  obtain ⟨mA, hns, hr⟩ := hx
  obtain ⟨od, ho, hl⟩ := lookIn_ns hns
  have l : List.lookup f [(f, v)] = some v := by simp [List.lookup]
  obtain ⟨u, hu, ru⟩ := RelO.some_of (v := v) (o := mA f) (by rw [← l]; exact hr f)
  have J : PySem.W.InstAt s1.heap a0 oe C (some od) := ⟨ha, hz.1, by unfold PySem.W.notCls; rw [hd] <;> rfl, by rw [hz.2]; exact ho⟩
  exact HandSPX.exc_get I1.kIn J T.ga T.gg T.exC (PySem.W.findObj_own T.hdC noN rfl (by rw [hl, hu])) (handed_of ru) ⟨v, H1, I1.tok _, ru, q⟩
end
/-! ### defs that let out errors whose context is None; defs called within an except suite -/
section
variable {P : Program} {w : World} {K : PySem.W.Frag} {mg : Str → Option Value} {base : Heap}
theorem Fun.okN {x qual : Str} {st : Stmt} {f : Addr} {fd : FuncData} {N ps : List Str} {k : Nat} {sp : Sp} (F : Fun K x qual st f fd) (S : FnScope N ps (defScope st)) (len : ∀ vs H Q E, sp vs H Q E → vs.length = ps.length)
    (hbody : ∀ (cdv : Value) (A : Around) (outer : List Env) (s : Shared) (H : Hp) (vs : List V) (Q : VK) (E : XK), Room k (A.deeper (envOfC qual (defScope st) s.heap.objs.size f cdv)) → sp vs H Q E →
      ∃ t, PSs (cxOf (L2N.CX P w) P w K mg base N qual (defScope st) f cdv A outer s H E) (defBody st) t ∧ t { nx := fun _ H' => Q .non H', rt := Q } (start N vs) H) : FnOk P w K mg base (L2N.CX P w) (k + 1) f fd ps sp := by
  obtain ⟨oc, od, kV, doc, pm, an, cdv, ct, osl, rfl, lk, hcd⟩ := F.ex
  exact fn_of lk hcd S len fun A outer s H vs Q E hr hsp => hbody cdv A outer s H vs Q E hr hsp
end
section
variable {X : Cx}
/-- of a callee that raises nothing here -/
theorem passN : Passes (L2N.CX X.prog X.w) X E0 := fun _ _ _ _ _ _ _ h => by
  obtain ⟨_, _, _, _, _, _, _, _, _, _, _, _, z⟩ := h
  exact z.elim
theorem pass0H {E : St → XK} : ∀ σ, PassesAt CX0 X σ (E σ) := fun _ _ _ _ _ _ _ h => h.elim
theorem room_suite {k : Nat} {a : Addr} {pn : List (Addr × Obj)} (r : Room k X.A) : L2H.RoomH k (X.suite a pn).A := ⟨r.dp, r.un⟩
end
end L2
/-! Own objects: str(o) by the class's own __str__; // by any divisor other than zero; errors of a call in a try body whatever the slots hold. -/
namespace L2
open PySem PySem.Spec PyProof.Rows Er
section
variable {X : Cx}
/-- the same place, n units further in -/
theorem Inv.in1 {pins : List (Addr × Obj)} {σ : St} {H : Hp} {s : Shared} (I : Inv X pins σ H s) (n : Nat) : Inv { X with A := { X.A with units := n } } pins σ H s :=
  ⟨⟨I.ok.mod, I.ok.kind, I.ok.glob, I.ok.blt, I.ok.above, I.ok.inj, I.ok.has, I.ok.cab, I.ok.hd, I.ok.frames, I.ok.stk, I.ok.exf, I.ok.bs, I.ok.bsz, I.ok.noex, I.ok.exfs, I.ok.funs, I.ok.frf⟩,
    I.os, I.bare, I.base, I.loc, I.cell, I.free, I.freeC, I.pin, I.hok, I.len⟩
theorem Inv.out1 {pins : List (Addr × Obj)} {σ : St} {H : Hp} {s : Shared} {n : Nat} (I : Inv { X with A := { X.A with units := n } } pins σ H s) : Inv X pins σ H s :=
  ⟨⟨I.ok.mod, I.ok.kind, I.ok.glob, I.ok.blt, I.ok.above, I.ok.inj, I.ok.has, I.ok.cab, I.ok.hd, I.ok.frames, I.ok.stk, I.ok.exf, I.ok.bs, I.ok.bsz, I.ok.noex, I.ok.exfs, I.ok.funs, I.ok.frf⟩,
    I.os, I.bare, I.base, I.loc, I.cell, I.free, I.freeC, I.pin, I.hok, I.len⟩
theorem inst_of {pins : List (Addr × Obj)} {σ : St} {H : Hp} {s : Shared} (I : Inv X pins σ H s) {a C dx : Addr} {fs : List (Str × V)} (h : H a = some (.ins C dx fs)) : ∃ ox od, PySem.W.InstAt s.heap a ox C od := by
  obtain ⟨mA, O, _, _, _, _⟩ := ins_get I.hok h
  obtain ⟨od, ho, _⟩ := lookIn_ns O.ns
  exact ⟨_, some od, O.obj, rfl, rfl, ho⟩
/-- str(o), o of the class C with its own __str__ -/
def rStrO (C : Addr) (sp : Sp) (E : XK) : List V → Hp → VK → Prop := fun xs H Q => ∃ a dx fs, xs = [.ref a] ∧ H a = some (.ins C dx fs) ∧ sp [.ref a] H (fun v H' => ∃ z, v = .str z ∧ Q v H') E
theorem call_strO {CX : CXT} {k : Nat} {C g : Addr} {fd : FuncData} {sp : Sp} {E : XK} (hf : PySem.W.findIn X.K (.ref C) "__str__" = some (some (.ref g))) (hi : PySem.W.isFn X.K (.ref g) = true)
    (F : FnOk X.prog X.w X.K X.mg X.base CX k g fd ["self"] sp) (hr : Room (k + 1) X.A) (b : Binds X.K fd ["self"] []) (hx : Passes CX X E) : CallR X (.type "str") (rStrO C sp E) := by
  intro pins s σ H xs us Q I r h
  obtain ⟨a, dx, fs, rfl, ha, h⟩ := h
  cases r with
  | cons rx rr =>
    cases rr
    cases rx
    obtain ⟨ox, od, J⟩ := inst_of I ha
    have hu := hr.un
    refine PySem.W.kso_call (by show X.A.units + 1 + 1 < cLine; omega) I.kIn J hf hi ?_
    have hr' : Room k ({ X.A with units := X.A.units + 1 + 1 } : Around) := ⟨hr.hd, by have := hr.dp; show X.A.depth + 3 * k + 5 < _; omega, by show X.A.units + 1 + 1 + 16 * k + 200 < cLine; omega⟩
    have z := run_fn (X := { X with A := { X.A with units := X.A.units + 1 + 1 } }) (CX := CX) (Q := fun v H' => ∃ z, v = .str z ∧ Q v H') (vs := [.ref a]) (us := [.ref a]) F hr' b .nil (fun pins σ H s e s' I' h' => hx pins σ H s e s' I'.out1 h') (I.in1 _) (.cons rfl .nil) h
    refine thn z fun u s1 hh => ?_
    obtain ⟨v, H1, I1, rv, y, ev, q⟩ := hh
    subst ev
    obtain ⟨tk, rfl⟩ := rv
    exact ⟨.str y, H1, I1.out1, ⟨tk, rfl⟩, q⟩
end
end L2
/-! A static method called by its class's name; a display whose first item is a written text and more (so that a token is out behind it). -/
namespace L2
open PySem PySem.Spec PyProof.Rows Er
end L2
namespace Er
open PySem PySem.W PySem.Calls PyProof.Rows PySem.HandSPX
/-- f'c{f!r}' of a longer text -/
theorem msg_crL {f : Str} {y : Str} {t : Tok} {c : Str} {p q p1 p2 : Pos} {k : Nat} (hF : Fld f) (hc : c.length ≤ 1000) (hz : (reprText y).length ≤ 5000) : Msg (.JoinedStr [.Constant (.str c) k p1, .FormattedValue (.Name f p) 114 none q] p2) f (.str y t) (scope1 f) where
  call := fun env a b c' d e => ⟨_, call_eq e rfl⟩
  star := fun env => rfl
  swap := fun _ _ _ _ _ _ => rfl
  text := fun prog w A E env s m Q he hn hv h => by
    have z0 : (Str.empty ++ c).length ≤ 0 + 1000 := app_le (Nat.le_refl _) hc
    have z1 : (Str.empty ++ c ++ reprText y).length ≤ 0 + 1000 + 5000 := app_le z0 hz
    have b0 : (6000 : Nat) ≤ sizeLine := by rw [sizeLine_eq]; decide
    refine wpAny_JoinedStr ?_
    refine wpAny_Constant_str ⟨c, _, rfl, Nat.le_trans z0 (Nat.le_trans (by decide) b0), ?_⟩
    refine part_r (sc := scope1 f) hF.kf rfl hF.dbg he (s := { s with toks := s.toks + 1 }) hn hv (Nat.le_trans hz (Nat.le_trans (by decide) b0)) fun tk n => ⟨_, _, rfl, Nat.le_trans z1 b0, ?_⟩
    exact ⟨Nat.le_trans z1 b0, h _ _ _⟩
end Er
/-! Own operators: o + o, o + 3, 3 + o, o += .., -o, o < o, .. by the class's own methods. -/
namespace L2
open PySem PySem.Spec PyProof.Rows Er
section
variable {prog : Program} {w : World} {A : Around} {E : Value → Shared → Prop} {s : Shared} {K : PySem.W.Frag} {x C dx f g : Addr} {ox : Obj} {od : Option Obj} {Q : Value → Shared → Prop} {i : Int} {t : Tok}
/-- the class at C stands right above object -/
def mro2 (K : PySem.W.Frag) (C : Addr) : Bool := (PySem.W.clsIn K C).any fun cd => cd.mro == [Value.ref C, Value.type "object"]
end
section
variable {X : Cx}
theorem inst_of' {pins : List (Addr × Obj)} {σ : St} {H : Hp} {s : Shared} (I : Inv X pins σ H s) {a C dx : Addr} {fs : List (Str × V)} (h : H a = some (.ins C dx fs)) : ∃ od, PySem.W.InstAt s.heap a (PySem.W.instObj C dx) C od := by
  obtain ⟨mA, O, _, _, _, _⟩ := ins_get I.hok h
  obtain ⟨od, ho, _⟩ := lookIn_ns O.ns
  exact ⟨some od, O.obj, rfl, rfl, ho⟩
variable {CX1 CX2 : CXT} {C f g : Addr} {fd gd : FuncData} {k k2 : Nat} {spF spR : Sp} {E E2 : XK} {op : Operator} {gi : Int → Int → V}
end
end L2
/-! Comparisons with own objects on either side; abs(o), bool(o) by the class's own methods. -/
namespace L2
open PySem PySem.Spec PyProof.Rows Er
end L2
/-! A set of texts: set(list of texts), sorted(set), len(set), in. -/
namespace L2
open PySem PySem.Spec PyProof.Rows Er PySem.Froz
abbrev newS (w : World) : Obj := { cls := .type "set", dict := none, data := .set #[] 0 (.fresh 0 0 (!w.params.followText "set-order")) }
/-- one more text -/
def put1 (l : List Str) (k : Str) : List Str := if k ∈ l then l else k :: l
def putL (xs : List Str) : List Str := xs.foldl put1 []
theorem put1_nd {l : List Str} {k : Str} (h : l.Nodup) : (put1 l k).Nodup := by
  unfold put1; split
  · exact h
  · rename_i c; exact List.nodup_cons.mpr ⟨c, h⟩
theorem put1_mem {l : List Str} {k x : Str} : x ∈ put1 l k ↔ x ∈ l ∨ x = k := by
  unfold put1; split
  · rename_i c; exact ⟨.inl, fun z => z.elim id fun e => e ▸ c⟩
  · rw [List.mem_cons]; exact Or.comm
theorem put1_len {l : List Str} {k : Str} : (put1 l k).length ≤ l.length + 1 := by
  unfold put1; split
  · omega
  · simp
theorem putL_step (xs : List Str) (k : Str) : putL (xs ++ [k]) = put1 (putL xs) k := by unfold putL; rw [List.foldl_append] <;> rfl
theorem foldl_put1 : ∀ (xs l : List Str), l.Nodup → (xs.foldl put1 l).Nodup ∧ (∀ x, x ∈ xs.foldl put1 l ↔ x ∈ l ∨ x ∈ xs) ∧ (xs.foldl put1 l).length ≤ l.length + xs.length
  | [], l, h => ⟨h, fun x => by simp, by simp⟩
  | k :: xs, l, h => by
    obtain ⟨a, b, c⟩ := foldl_put1 xs (put1 l k) (put1_nd h)
    refine ⟨a, fun x => ?_, ?_⟩
    · rw [List.foldl_cons, b x, put1_mem, List.mem_cons, or_assoc]
    · have := put1_len (l := l) (k := k)
      rw [List.foldl_cons, List.length_cons]; omega
theorem putL_nd (xs : List Str) : (putL xs).Nodup := (foldl_put1 xs [] .nil).1
theorem putL_mem {xs : List Str} {x : Str} : x ∈ putL xs ↔ x ∈ xs := by
  have h := (foldl_put1 xs [] .nil).2.1 x
  simpa [putL] using h
theorem putL_len (xs : List Str) : (putL xs).length ≤ xs.length := by
  have h := (foldl_put1 xs [] .nil).2.2
  simpa [putL] using h
structure SetS (P : Program) (w : World) (h : Heap) (a : Addr) (l : List Str) : Prop where
  it : ∃ D : SD, h.get? a = some (sObj "set" D) ∧ TxOk P w D l ∧ Ris D.2.2.place.toList ∧ (w.params.followText "set-order" = true ∨ D.2.2.led = true)
section
variable {P : Program} {w : World} {A : Around} {E : Value → Shared → Prop} {s : Shared}
theorem SetS.keep {h h' : Heap} {a : Addr} {l : List Str} (R : SetS P w h a l) (k : ∀ o, h.get? a = some o → h'.get? a = some o) : SetS P w h' a l := by
  obtain ⟨D, x, y⟩ := R.it
  exact ⟨D, k _ x, y⟩
theorem setS_new {h : Heap} {a : Addr} (ho : h.get? a = some (newS w)) : SetS P w h a [] :=
  ⟨(#[], 0, .fresh 0 0 (!w.params.followText "set-order")), ho, TxOk.nil (by rfl), List.Pairwise.nil, by
    show _ ∨ (!w.params.followText "set-order") = true
    cases w.params.followText "set-order" <;> simp⟩
theorem tail_ris {ep : Nat} {es : Array (Int × Value)} {t : SetTable} {b : Bool} (r : Ris t.place.toList) : Ris (tailTx ep es t b).2.2.place.toList := by
  unfold tailTx; split
  · exact relayAll_ris _ _ _
  · exact r
theorem tail_led {ep : Nat} {es : Array (Int × Value)} {t : SetTable} {b : Bool} : (tailTx ep es t b).2.2.led = t.led := by
  unfold tailTx; split
  · exact relayAll_led _ _ _
  · rfl
theorem add_ris {D : SD} (h : Int) (v : Value) (r : Ris D.2.2.place.toList) : Ris (addTx h v D).2.2.place.toList := by
  unfold addTx
  refine tail_ris ?_
  have z := layNew_ris D.2.2 D.1 h v r
  split <;> exact z
theorem add_led {D : SD} (h : Int) (v : Value) : (addTx h v D).2.2.led = D.2.2.led := by
  unfold addTx
  rw [tail_led]
  have z := layNew_led D.2.2 D.1 h v
  split <;> exact z
/-- a text that the set has already -/
theorem old_x {a : Addr} {D : SD} {l : List Str} {k : Str} {u : Tok} {Q : Bool → Shared → Prop} (ho : s.heap.get? a = some (sObj "set" D)) (F : TxOk P w D l) (hk : k ∈ l) (hb : l.length < scanBound)
    (h : Q false s) : wpAny (model P w) A (setAddHashed a (.str k u) (hashStr w k)) Q E s := by
  obtain ⟨es, ep, t⟩ := D
  have dat : (sObj "set" (es, ep, t)).data = .set es ep t := rfl
  have few : es.size < scanBound := by have z : es.size = l.length := F.sz; omega
  have key : (strKind P w).is k (.str k u) = true := is_str k u
  unfold setAddHashed setAddHashedIn
  apply wpAny_holding; apply wpAny_bind
  refine wpAny_setState_of ho dat F.fit ?_
  simp only [byScan_of (x := Value.str k u) rfl few F.el, ↓reduceIte]
  unfold setAddByScan
  apply wpAny_bind; apply wpAny_bind; apply wpAny_rule; apply wpAny_bind
  refine wpAny_setScan_of (knd := strKind P w) (k := k) key ho dat F.fit F.el ?_
  obtain ⟨e, he, pe⟩ := (F.mem k).mp hk
  cases hr : List.findIdx? (fun e => (strKind P w).is k e.2) es.toList with
  | none => exact absurd (List.findIdx?_eq_none_iff.mp hr e he) (by rw [pe]; decide)
  | some j => exact wpAny_pure (wpAny_pure h)
theorem setS_add {a : Addr} {l : List Str} {k : Str} {u : Tok} {Q : Bool → Shared → Prop} (R : SetS P w s.heap a l) (hb : l.length + 1 < scanBound)
    (h : ∀ h', Heap.SameBut a s.heap h' → SetS P w h' a (put1 l k) → Q (decide (k ∉ l)) { s with heap := h' }) : wpAny (model P w) A (setAddHashed a (.str k u) (hashStr w k)) Q E s := by
  obtain ⟨D, ho, F, r, d⟩ := R.it
  by_cases c : k ∈ l
  · have q := h s.heap (Heap.SameBut.refl a s.heap) (by unfold put1; rw [if_pos c]; exact R)
    rw [show decide (k ∉ l) = false from by simp [c]] at q
    exact old_x ho F c (by omega) q
  · have q := h _ (Heap.SameBut.update s.heap a _) ⟨addTx (hashStr w k) (.str k u) D, get_upd _ ho rfl, by unfold put1; rw [if_neg c]; exact add_ok u F, add_ris _ _ r, by rw [add_led]; exact d⟩
    rw [show decide (k ∉ l) = true from by simp [c]] at q
    exact add_x ho F c hb q
/-- the texts are put in one by one -/
theorem update_texts {I : Addr} {fp wr : List Addr} {G : Array GenState → Array GenState → Prop} {n : Nat} {Pv : Nat → Value → Prop} {St : Nat → Shared → Prop} {R : Result → Shared → Prop} (S : Addr) (xs : List Str)
    (W : WalksS P w A.in1 I fp wr G n Pv St) (off : S ∉ fp) (hn : n = xs.length) (room : xs.length + 1 < scanBound) (val : ∀ i v, Pv i v → ∃ k t, xs[i]? = some k ∧ v = .str k t) :
    ∀ (m i : Nat) (s : Shared), i + m = n → St i s → SetS P w s.heap S (putL (xs.take i)) → (∀ s', Moved (S :: wr) G s s' → SetS P w s'.heap S (putL xs) → R (.ok (.ret .none)) s') →
      codeAny (model P w) A (.builtin "set.update.loop" ⟨[.ref S, .ref I], []⟩) R s := by
  have offw : S ∉ wr := fun z => off (W.sub _ z)
  have wide : ∀ b ∈ wr, b ∈ S :: wr := fun b z => List.mem_cons_of_mem _ z
  intro m
  induction m with
  | zero =>
    intro i s e st hS fin
    have all : xs.take i = xs := List.take_of_length_le (by omega)
    rw [all] at hS
    apply codeAny_builtin PyProof.Rows.F.entry_set_update_loop
    rw [Around.under_plainId PyProof.Rows.F.plain_set_update_loop _]
    have en : i = n := by omega
    subst en
    exact wpAny_bind (W.done s _ _ st fun s' mv => wpAny_pure (fin s' (mv.mono wide) (hS.keep fun o z => mv.heap S o offw z)))
  | succ m ih =>
    intro i s e st hS fin
    apply codeAny_builtin PyProof.Rows.F.entry_set_update_loop
    rw [Around.under_plainId PyProof.Rows.F.plain_set_update_loop _]
    apply wpAny_bind
    refine W.item i s _ _ (by omega) st fun v s' pv st' mv => ?_
    obtain ⟨k, t, hk, rfl⟩ := val i v pv
    have hS' : SetS P w s'.heap S (putL (xs.take i)) := hS.keep fun o z => mv.heap S o offw z
    have hlen : (putL (xs.take i)).length + 1 < scanBound := by
      have z := putL_len (xs.take i)
      rw [List.length_take] at z
      omega
    have next : put1 (putL (xs.take i)) k = putL (xs.take (i + 1)) := by rw [List.take_add_one, hk, ← putL_step] <;> rfl
    show wpAny _ A.in1 (holding [Value.str k t] (setAdd S (.str k t)) >>= fun _ => again _) _ _ s'
    apply wpAny_bind; apply wpAny_holding
    unfold setAdd
    apply wpAny_holding; apply wpAny_bind
    refine (strKind P w).pyHash (k := k) (is_str k t) ?_
    refine setS_add (s := { s' with toks := s'.toks + 1 }) hS' hlen fun h' same new => ?_
    rw [next] at new
    have oth : ∀ b o, b ≠ S → s'.heap.get? b = some o → h'.get? b = some o := fun b o nb z => (same.2 b nb).trans z
    refine wpAny_pure ⟨plainId_quiet PyProof.Rows.F.plain_set_update_loop _, ih (i + 1) { s' with heap := h', toks := s'.toks + 1 } (by omega) (W.frame _ s' _ _ st' (Nat.le_succ _) fun b hb o z => oth b o (fun y => off (y ▸ hb)) z) new fun s'' mv' hS'' => ?_⟩
    exact fin s'' (Moved.trans W.gtrans ((mv.mono wide).then_heap (Nat.le_succ _) fun b o nb z => oth b o (fun y => nb (y ▸ List.mem_cons_self)) z) mv') hS''
theorem text_at : ∀ {us : List Value} {xs : List Str}, StrsAre us xs → ∀ (i : Nat) (v : Value), us[i]? = some v → ∃ k u, xs[i]? = some k ∧ v = .str k u
  | _, _, .nil, i, v, e => by simp at e
  | _, _, .cons x u r, 0, v, e => ⟨x, u, rfl, by simpa using e.symm⟩
  | _, _, .cons x u r, i + 1, v, e => by simpa using text_at r i v (by simpa using e)
theorem size_new (h : Heap) (o : Obj) : (h.push o).objs.size = h.objs.size + 1 := Heap.size_push h o
/-- set(l), l a list of texts -/
theorem set_texts {l : Addr} {its : Array Value} {xs : List Str} {Q : Value → Shared → Prop} (calm : A.handled = none) (hl : s.heap.IsList l its) (tx : StrsAre its.toList xs) (room : xs.length + 1 < scanBound)
    (h : ∀ (h' : Heap) (tk : Nat), SetS P w h' s.heap.objs.size (putL xs) → (∀ b o, s.heap.get? b = some o → h'.get? b = some o) → Q (.ref s.heap.objs.size) { s with heap := h', toks := tk }) :
    wpAny (model P w) A (call (.type "set") [.ref l]) Q E s := by
  have cnt : its.size = xs.length := by rw [← StrsAre.len_eq tx, Array.length_toList]
  obtain ⟨c, tl, order⟩ := PySem.F.called_set.mro
  have built := PySem.F.called_set.made
  have under := PySem.F.called_set.sub
  apply wpAny_call; apply codeAny_of_tree
  show wpAny _ _ (callAny (.type "set") ⟨[.ref l], []⟩) _ _ s
  refine wpAny_pure ⟨Code.quiet_builtin _ (by decide +kernel), ?_⟩
  apply codeAny_builtin PySem.F.entry_type_call
  rw [Around.under_plain (weight_type_call_type "set" [.ref l] []) rfl]
  have no := PySem.F.called_set.notType
  have may := PySem.F.called_set.canCreate
  have one := PySem.F.typeCall_set_1 (.ref l)
  repeat (any_goals (first | assumption | wp_step))
  refine codeAny_mono (code_set_led1 (.ref l) (E := E) (Q₁ := fun r s₁ => r = .ref s.heap.objs.size ∧ s₁ = { s with heap := s.heap.push (newS w) }) ⟨rfl, rfl⟩) fun r s₁ got => ?_
  match r, got with
  | .ok (.ret r), ⟨e1, e2⟩ =>
    subst e1; subst e2
    have at0 : (s.heap.push (newS w)).get? s.heap.objs.size = some (newS w) := Heap.get?_push_size _ rfl
    have kind : Shared.TypeIs { s with heap := s.heap.push (newS w) } (.ref s.heap.objs.size) "set" := ⟨_, at0, rfl⟩
    have look := PySem.F.called_set.init.lookup
    have bind := PySem.F.called_set.init.bind (.ref s.heap.objs.size)
    repeat (any_goals (first | assumption | wp_step))
    refine codeAny_mono (codeAny_call_builtin (R := wants (fun r s₂ => r = .none ∧ ∃ h' tk, s₂ = { s with heap := h', toks := tk } ∧ SetS P w h' s.heap.objs.size (putL xs) ∧ ∀ b o, s.heap.get? b = some o → h'.get? b = some o) E) PySem.F.called_set.init.plain PySem.F.entry_set_init (check_set_init_1 kind ?_)) fun r₂ s₂ got₂ => ?_
    · have far : l < s.heap.objs.size := by obtain ⟨o, z, _⟩ := hl; exact Heap.lt_size z
      have hl0 : (s.heap.push (newS w)).IsList l its := hl.push _
      obtain ⟨⟨cl, di, da, sl⟩, atl, ecl, ct, eda⟩ := hl0
      simp only at ecl eda
      subst ecl; subst eda
      have d1 := PySem.F.sub_list_set
      have d2 := PySem.F.sub_list_frozenset
      have d3 : (Value.type "list" == Value.type "dict") = false := by decide
      have hl1 : (s.heap.push (newS w)).IsList l its := ⟨_, atl, rfl, ct, rfl⟩
      unfold Builtin.«set.__init__» noKeywords Builtin.Frozenset.updateFrom
      generalize walkIt : pyIter = PW
      wp_walk
      subst walkIt
      refine wpAny_pyIter_list hl1 (wpAny_bind (wpAny_runValue ?_))
      have calm3 : A.in1.in1.in1.handled = none := by simp [calm]
      have sz := size_new s.heap (newS w)
      have n1 : l ≠ (s.heap.push (newS w)).objs.size := by rw [sz]; exact Nat.ne_of_lt (Nat.lt_succ_of_lt far)
      have n2 : s.heap.objs.size ∉ [(s.heap.push (newS w)).objs.size, l] := by
        simp only [List.mem_cons, List.not_mem_nil, or_false, not_or, sz]; exact ⟨Nat.ne_of_lt (Nat.lt_succ_self _), Nat.ne_of_gt far⟩
      refine update_texts s.heap.objs.size xs ((Walks.list calm3 _ l n1 its).toS) n2 cnt room (fun i v e => text_at tx i v (by rw [Array.getElem?_toList]; exact e)) its.size 0 _ (by omega) ⟨⟨_, Heap.get?_push_size _ rfl, rfl, rfl⟩, hl1.push _⟩
        (setS_new (Heap.get?_push_of_some _ at0)) ?_
      intro s' mv new
      obtain ⟨h', g', d', tk', o'⟩ := s'
      obtain rfl : g' = s.gens := mv.gens
      obtain rfl : d' = s.drawn := mv.drawn
      obtain rfl : o' = s.os := mv.os
      refine wpAny_pure (wpAny_pure ⟨rfl, h', tk', rfl, new, fun b o z => ?_⟩)
      have lt := Heap.lt_size z
      refine mv.heap b o ?_ (Heap.get?_push_of_some _ (Heap.get?_push_of_some _ z))
      simp only [List.mem_cons, List.not_mem_nil, or_false, not_or, sz]
      exact ⟨Nat.ne_of_lt lt, Nat.ne_of_lt (Nat.lt_succ_of_lt lt)⟩
    · match r₂, got₂ with
      | .ok (.ret r), ⟨e1, h', tk, e2, new, keep⟩ =>
        subst e1; subst e2
        repeat (any_goals (first | assumption | wp_step))
        exact h _ _ new keep
      | .error e, z => exact z
  | .error e, z => exact z
end
end L2
namespace L2
open PySem PySem.Spec PyProof.Rows Er PySem.Froz
section
variable {P : Program} {w : World} {A : Around} {E : Value → Shared → Prop} {s : Shared}
theorem el_text {e : Int × Value} (h : (∃ k, (PySem.strKind P w).is k e.2 = true ∧ e.1 = (PySem.strKind P w).hash k) ∧ e.2.scannable = true) : ∃ x u, e.2 = .str x u := by
  obtain ⟨⟨k, z, _⟩, _⟩ := h
  obtain ⟨u, y⟩ := Value.isStrOf_shape z
  exact ⟨k, u, y⟩
theorem perm_of_sub : ∀ {l m : List Str}, l.Nodup → (∀ x ∈ l, x ∈ m) → m.length ≤ l.length → l.Perm m
  | [], m, _, _, h => by rw [List.eq_nil_of_length_eq_zero (Nat.le_zero.mp h)]
  | x :: l, m, nd, sub, h => by
    obtain ⟨n1, n2⟩ := List.nodup_cons.mp nd
    have hx : x ∈ m := sub x List.mem_cons_self
    have pe := List.perm_cons_erase hx
    refine (List.Perm.cons x (perm_of_sub n2 (fun y hy => ?_) ?_)).trans pe.symm
    · exact (List.mem_erase_of_ne (fun (e : y = x) => n1 (by rw [← e]; exact hy))).mpr (sub y (List.mem_cons_of_mem _ hy))
    · have z := pe.length_eq
      simp only [List.length_cons] at z h
      omega
/-- the texts that the set's entries hold are the list's, in another order -/
theorem tx_texts {D : SD} {l : List Str} (F : TxOk P w D l) (nd : l.Nodup) : (D.1.toList.map fun e => strOf e.2).Perm l := by
  have key : ∀ e ∈ D.1.toList, (PySem.strKind P w).is (strOf e.2) e.2 = true := fun e he => by
    obtain ⟨x, u, z⟩ := el_text (F.el e he)
    rw [z]; exact is_str x u
  refine (perm_of_sub nd (fun k hk => ?_) ?_).symm
  · obtain ⟨e, he, z⟩ := (F.mem k).mp hk
    exact List.mem_map.mpr ⟨e, he, (PySem.strKind P w).inj e.2 _ _ (key e he) z⟩
  · rw [List.length_map, Array.length_toList, F.sz]; exact Nat.le_refl _
/-- sorted(a), a set of texts -/
theorem sorted_textset {a : Addr} {l : List Str} {Q : Value → Shared → Prop} (calm : A.handled = none) (R : SetS P w s.heap a l) (nd : l.Nodup) (room : l.length < scanBound)
    (h : ∀ (s' : Shared) (p : Addr) (out : Array Value) (c : Nat) (ss : List Str), (∀ b o, s.heap.get? b = some o → s'.heap.get? b = some o) → s'.gens = s.gens → s'.os = s.os → s.heap.objs.size ≤ p →
      s'.heap.get? p = some (seqObj "list" out c) → StrsAre out.toList ss → ss.Perm l → sortedS ss = true → Q (.ref p) s') :
    wpAny (model P w) A (call (.builtin "sorted") [.ref a]) Q E s := by
  obtain ⟨⟨es, ep, t⟩, ho, F, ris, led⟩ := R.it
  have sz : es.size = l.length := F.sz
  refine Calls.call_function_entry kind_sorted plain_sorted entry_sorted (args_sorted1 _) ?_
  unfold Builtin.«sorted»
  refine wpAny_bind (m := checkCount "sorted" 1 1 _) (wpAny_pure ?_)
  apply wpAny_bind
  refine collect_set (A := A.in1) calm ⟨_, ho, rfl, rfl⟩ F.fit (by rw [sz]; exact room) ris led fun s1 vs keep le eg eo pm => ?_
  have len : vs.length = l.length := by rw [pm.length_eq, List.length_map, Array.length_toList, sz]
  have tx : StrsAre vs (vs.map strOf) := strsAre_map vs fun v hv => by
    obtain ⟨e, he, rfl⟩ := List.mem_map.mp (pm.mem_iff.mp hv)
    exact el_text (F.el e he)
  have pl : (vs.map strOf).Perm l := by
    have z := pm.map strOf
    rw [List.map_map] at z
    exact z.trans (tx_texts F nd)
  have big : vs.length ≤ sizeLine := by rw [len]; exact fits_of_scanBound room
  refine wpAny_bind (wpAny_newList ?_ big)
  have at1 : (s1.heap.push (seqObj "list" vs.toArray 0)).get? s1.heap.objs.size = some (seqObj "list" vs.toArray 0) := Heap.get?_push_size _ rfl
  apply wpAny_bind; apply wpAny_holding
  refine wpAny_call_entry slot_list_sort ⟨_, at1, rfl⟩ entry_list_sort (list_sort_treeKAny strKind_oneLt at1 tx.keysOf (fun v₁ v₂ r e => keyKind_strs (by rw [← e]; exact tx)) big fun st' q1 q2 => ⟨_, rfl, ?_⟩) (args_list_sort _)
  obtain ⟨ss, t1, t2, t3⟩ := sorted_out_str tx q1 q2
  obtain ⟨c, hc⟩ := sortedHeap_at (vs := vs) (out := (arrOf st').map (·.2)) at1
  refine wpAny_pure ⟨_, rfl, h _ s1.heap.objs.size _ c ss (fun b o z => ?_) eg eo le hc t1 (t2.trans pl) t3⟩
  have y := keep b o z
  have lt := Heap.lt_size y
  show (sortedHeap (s1.heap.push (seqObj "list" vs.toArray 0)) s1.heap.objs.size vs ((arrOf st').map (·.2))).get? b = some o
  rw [sortedHeap_old (Nat.ne_of_lt lt) (by rw [size_new]; exact Nat.lt_succ_of_lt lt)]
  exact Heap.get?_push_of_some _ y
end
def SetSO (P : Program) (w : World) (a : Addr) (l : List Str) : HO := .ext fun h => SetS P w h a l
section
variable {X : Cx}
theorem setSO_new {w : World} {P : Program} {H : Hp} {h : Heap} {a : Addr} {l : List Str} (R : SetS P w h a l) : ObjOk P w H h a (SetSO P w a l) := by
  obtain ⟨D, z, _⟩ := R.it
  exact ⟨R, ⟨_, z⟩, fun h1 h2 p k => p.keep k⟩
/-- set(xs), xs a list of texts -/
def rSetS (X : Cx) : List V → Hp → VK → Prop := fun vs H Q => ∃ (l : Addr) (xs : List Str), vs = [V.ref l] ∧ SqL X.K H l (xs.map V.str) ∧ xs.length + 1 < 4096 ∧ ∀ p, H p = none → Q (.ref p) (upd H p (SetSO X.prog X.w p (putL xs)))
theorem cr_setS (hc : X.calm = true) : CallR X (.type "set") (rSetS X) := by
  intro pins s σ H vs us Q I r h
  obtain ⟨l, xs, rfl, hl, few, q⟩ := h
  rw [Vals.ref1 r]
  obtain ⟨its, rv, pl, _⟩ := I.list hl
  refine set_texts (P := X.prog) (w := X.w) (xs := xs) (I.ok.hd hc) pl.isList (by simpa using strsAre_of rv) (by unfold scanBound; exact few) fun h' tk R keep => ?_
  exact ⟨.ref s.heap.objs.size, _, I.laid (t' := tk) keep (Nat.le_refl _) (setSO_new R), rfl, q _ (I.hok.fresh (Nat.le_refl _))⟩
/-- sorted(a), a a set of texts -/
def rSrtS (X : Cx) : List V → Hp → VK → Prop := fun vs H Q => ∃ (a : Addr) (l : List Str), vs = [V.ref a] ∧ H a = some (SetSO X.prog X.w a l) ∧ l.Nodup ∧ l.length < 4096 ∧
  ∀ (ss : List Str) (p : Addr), ss.Perm l → sortedS ss = true → H p = none → Q (.ref p) (upd H p (.lst (ss.map V.str)))
theorem cr_srtS (hc : X.calm = true) : CallR X (.builtin "sorted") (rSrtS X) := by
  intro pins s σ H vs us Q I r h
  obtain ⟨a, l, rfl, ha, nd, few, q⟩ := h
  rw [Vals.ref1 r]
  have R : SetS X.prog X.w s.heap a l := (I.hok a _ ha).1
  have room : l.length < scanBound := by unfold scanBound; exact few
  refine sorted_textset (I.ok.hd hc) R nd room fun s' p out c ss keep eg eo le hp tx pm so => ?_
  have none : H p = none := I.hok.fresh le
  have big : (ss.map V.str).length ≤ sizeLine := by rw [List.length_map, pm.length_eq]; exact fits_of_scanBound room
  have J : Inv X pins σ (upd H p (.lst (ss.map V.str))) { s with heap := s'.heap, gens := s'.gens, drawn := s'.drawn, toks := s'.toks } :=
    I.call (ch := []) (Un.laid keep le none) (I.hok.laid keep le ⟨big, out.toList, c, vals_of_strs tx, hp⟩) (by rw [eg]; exact I.bare) (fun _ z => nomatch z)
  have same : s' = { s with heap := s'.heap, gens := s'.gens, drawn := s'.drawn, toks := s'.toks } := by obtain ⟨_, _, _, _, _⟩ := s'; obtain ⟨_, _, _, _, _⟩ := s; cases eo; rfl
  rw [same]
  exact ⟨.ref p, _, J, rfl, q ss p pm so none⟩
end
end L2
/-! set(t), t a tuple of texts. -/
namespace L2
open PySem PySem.Spec PyProof.Rows Er PySem.Froz
end L2
/-! A list comprehension whose item lets out an error (raised where nothing is handled). -/
namespace L2
open PySem PySem.Spec PyProof.Rows
/-- what the block's code is to reach; an error goes on with the block's own env -/
def postE (M : Model) (A : Around) (E : Value → Shared → Prop) (use : Option (Value → Sem Unit)) (Q : Value → Shared → Prop) (acc : Value) (ce : Env) : Result → Shared → Prop
  | .ok f, s' => compPost M A E use Q acc ce.locals (.ok f) s'
  | .error x, s' => ∃ m, s'.heap.Ns ce.locals m ∧ ∀ h', Heap.SameBut ce.locals s'.heap h' → wpAny M A (passOn "comprehension.variables-let-go" x ce : Sem Value) (fun _ _ => False) E { s' with heap := h' }
theorem comp_errs {M : Model} {A : Around} {E : Value → Shared → Prop} {s : Shared} {env : Env} {e : Expr} {scope : Scope} {pos : Pos} {newAcc first : Sem Value} {g : Comprehension} {gs : List Comprehension} {cl : List (Str × Addr)} {use : Option (Value → Sem Unit)} {Q : Value → Shared → Prop}
    (cls : clausesOf e = g :: gs) (same : ∀ x, foldedSetIterable g.iter env x = pure x) (clo : closureFor scope env = pure cl) (kind : scope.kind = .function) (uniq : ∀ x ∈ scope.names, x.2 = .local → scope.names.lookup x.1 = some .local)
    (h : wpAny M A first (fun x s₁ => wpAny M A (pyIter x) (fun it s₂ => wpAny M A newAcc (fun acc s₃ => wpAny M A (newFunctionEnv scope env.globals cl [] env.qual none .none (some env)) (fun ce s₄ =>
      codeAny M A (.compStart e 0 it acc { ce with scope := relabel scope env }) (postE M A E use Q acc { ce with scope := relabel scope env }) s₄) E s₃) E s₂) E s₁) E s) :
    wpAny M A (comprehension e scope env pos newAcc false first use) Q E s := by
  unfold comprehension
  rw [clo, cls]
  have up : ∀ {α β : Type} {t : Sem α} {k : α → Sem β} {P : α → Shared → Prop} {R : β → Shared → Prop} {s : Shared}, wpAny M A t P E s → (∀ a s, P a s → wpAny M A (k a) R E s) → wpAny M A (t >>= k) R E s := fun a b => wpAny_bind (wpAny_mono a b fun _ _ z => z)
  refine up h fun x s₁ h₁ => wpAny_bind (wpAny_standAt ?_)
  refine wpAny_bind (wpAny_of_eq (same x) ?_)
  refine wpAny_bind (wpAny_holding (wpAny_mono h₁ (fun it s₂ h₂ => ?_) fun _ _ z => z))
  refine wpAny_standIf (up h₂ fun acc s₃ h₃ => wpAny_bind (wpAny_pure (up h₃ fun ce s₄ h₄ => ?_)))
  dsimp only
  generalize hvars : (scope.names.filter fun x => (x.2 == .local || x.2 == .cell) && x.1 != (".0" : Str)).reverse = vars
  have loc : ∀ x ∈ vars, x.2 = .local → Env.kindOf { ce with scope := relabel scope env } x.1 = some .local := fun x hx hl => by
    rw [← hvars] at hx
    exact lookup_relabel_local (uniq x (List.mem_filter.mp (List.mem_reverse.mp hx)).1 hl)
  have loc2 : ∀ x ∈ vars.drop 1 ++ vars.take 1, x.2 = .local → Env.kindOf { ce with scope := relabel scope env } x.1 = some .local := fun x hx hl =>
    (List.mem_append.mp hx).elim (fun z => loc x (List.mem_of_mem_drop z) hl) fun z => loc x (List.mem_of_mem_take z) hl
  refine wpAny_holding (wpAny_bind (wpAny_attempt (wpAny_holding (wpAny_run (codeAny_mono h₄ fun res s' got => ?_)))))
  match res, use, got with
  | .ok f, none, ⟨m, hn, q⟩ => exact wpAny_bind (wpAny_holding (wpAny_comp_letGo (cenv := { ce with scope := relabel scope env }) kind _ s' m loc hn fun h' m' _ sb => wpAny_pure (q h' sb)))
  | .ok f, some u, q =>
    apply wpAny_bind; apply wpAny_rule; apply wpAny_bind; apply wpAny_holding
    refine wpAny_mono q (fun _ s'' ⟨m, hn, q⟩ => ?_) fun _ _ z => z
    exact wpAny_bind (wpAny_comp_letGo (cenv := { ce with scope := relabel scope env }) kind _ s'' m loc2 hn fun h' m' _ sb => wpAny_pure (q h' sb))
  | .error x, use, ⟨m, hn, q⟩ =>
    exact wpAny_bind (wpAny_holding (wpAny_comp_letGo (cenv := { ce with scope := relabel scope env }) kind _ s' m loc hn fun h' m' _ sb => wpAny_mono (q h' sb) (fun _ _ f => f.elim) fun _ _ z => z))
theorem note_eq {e : Value} {ce env : Env} (hf : ce.frame = env.frame) : noteFrame e ce = noteFrame e env := by
  unfold PySem.noteFrame PySem.frameOf
  rw [hf]
theorem frames_less {h h' B B' : Heap} {C : Addr} : ∀ {l : List Env}, h.FunFrames B l → (∀ b o, h.get? b = some o → b ∈ frs l → ∃ o', h'.get? b = some o' ∧ o'.data = o.data) → (∀ b, B.get? b = none → B'.get? b = none) → h'.FunFrames B' l
  | [], _, _, _ => trivial
  | env :: r, ⟨a, ⟨L, o, hf, hn, ho, hd⟩, t⟩, k, n => by
    obtain ⟨o', e1, e2⟩ := k L o ho (List.mem_filterMap.mpr ⟨env, List.mem_cons_self, hf⟩)
    refine ⟨a, ⟨L, o', hf, n L hn, e1, fun vs => e2 ▸ hd vs⟩, frames_less (C := C) t (fun b o e m => k b o e ?_) n⟩
    obtain ⟨x, hx, q⟩ := List.mem_filterMap.mp m
    exact List.mem_filterMap.mpr ⟨x, List.mem_cons_of_mem _ hx, q⟩
/-- the error of a call within the block, in the air of the def -/
theorem blk_err {X : Cx} {E : XK} {ce : Env} {u : Value} {s0 s' : Shared} {pins : List (Addr × Obj)} {σ : St} {H0 : Hp} {m : Str → Option Value} {use : Option (Value → Sem Unit)} {Qf : Value → Shared → Prop} {acc : Value}
    (hs : X.stack = X.env :: X.outer) (hf : X.env.frame = some X.env.locals) (tk : L2N.Takes X (fun c d _ H => E c d H)) (hcf : ce.frame = X.env.frame)
    (I : Inv X pins σ H0 s0) (fC : FpOk X pins H0 ce.locals) (nC : s0.heap.Ns ce.locals m) (c : L2N.CX X.prog X.w X.stack H0 s0 E u s') :
    notedBy (model X.prog X.w) X.A ce (fun e s'' => postE (model X.prog X.w) X.A X.xe use Qf acc ce (.error e) s'') u s' := by
  obtain ⟨oC, es, ep, hC, dC, rC⟩ := id nC
  have oC' : ∃ es ep, oC.data = .dict es ep := ⟨es, ep, dC⟩
  obtain ⟨f0, f1, f2, f3, f4, f5⟩ := fC
  have out : ce.locals ∉ frs X.stack := by
    intro z
    rw [hs] at z
    rcases List.mem_filterMap.mp z with ⟨x, hx, q⟩
    rcases List.mem_cons.mp hx with e | hx
    · rw [e, hf] at q; exact f1 (Option.some.inj q).symm
    · exact f2 (List.mem_filterMap.mpr ⟨x, hx, q⟩)
  obtain ⟨a, B0, H', cls, d, rfl, fl, hok, ub, na, os, ag, hE⟩ := c
  have cS : s'.heap.get? ce.locals = some oC := fl.1 _ _ (ub.keep _ _ hC f0 out)
  have I0 : Inv X [] σ H0 s0 := I.pins_of fun p hp => nomatch hp
  obtain ⟨a', B, sI, pins', σ', H2, cls2, d2, ea, J', nb, up, sky, na2, os2, ag2, w2, w3⟩ := L2N.XE.of_call (W := fun c d _ H => E c d H ∧ H ce.locals = none) I0 (fun _ _ _ z => z) ⟨a, B0, H', cls, d, rfl, fl, hok, ub, na, os, ag, hE, ub.free _ _ hC f0⟩
  cases ea
  have J : Inv X [] σ' H2 sI := J'.pins_of fun p hp => nomatch hp
  have hfr : X.A.frames = some (X.env :: X.outer) := by rw [J.ok.frames, hs]
  rw [hs] at sky
  show wpAny _ X.A (noteFrame (.ref a) ce) _ _ s'
  rw [note_eq hcf]
  -- noted: it is held
  have go : ∀ h1, HandSPX.HeldZ B (X.env :: X.outer) a (L2N.Zn cls2 d2) X.env.locals h1 → s'.heap.UpToSlots h1 → postE (model X.prog X.w) X.A X.xe use Qf acc ce (.error (.ref a)) { s' with heap := h1 } := by
    intro h1 held up1
    obtain ⟨slC, c1⟩ := up1 _ _ cS (fun vs z => by rw [dC] at z; cases z)
    refine ⟨m, ⟨_, es, ep, c1, dC, rC⟩, fun h2 sb => ?_⟩
    obtain ⟨G, g1, g2⟩ := restrict sI.heap fun b => decide (b ≠ ce.locals)
    obtain ⟨B2, b1, b2⟩ := restrict B fun b => decide (b ≠ ce.locals)
    have gO : ∀ b, b ≠ ce.locals → G.get? b = sI.heap.get? b := fun b z => g1 b (decide_eq_true z)
    have gC : G.get? ce.locals = none := g2 _ (by simp)
    have bO : ∀ b, b ≠ ce.locals → B2.get? b = B.get? b := fun b z => b1 b (decide_eq_true z)
    have bC : B2.get? ce.locals = none := b2 _ (by simp)
    have ne_of : ∀ {h : Heap} {b : Addr} {o : Obj}, h.get? ce.locals = none → h.get? b = some o → b ≠ ce.locals := fun x y z => by rw [z, x] at y; cases y
    have bl : ∀ b, B.get? b = none → B2.get? b = none := fun b z => by
      by_cases e : b = ce.locals
      · rw [e]; exact bC
      · rw [bO b e]; exact z
    obtain ⟨k1, k2, k3, oe, vs, T, oT, ts, he, hz, hd, hv, hnT, hTe, hT, hdT, h3⟩ := held
    have notC : ∀ {b : Addr} {o : Obj} {vs : Array Value}, h1.get? b = some o → o.data = .fields vs → b ≠ ce.locals := fun {b o vs} x y z => by
      rw [z, c1] at x
      cases x
      have y' : oC.data = .fields vs := y
      rw [dC] at y'; cases y'
    have held2 : HandSPX.HeldZ B2 (X.env :: X.outer) a (L2N.Zn cls2 d2) X.env.locals h2 := by
      refine ⟨fun b o z => ?_, bl a k2, frames_less (C := ce.locals) k3 (fun b o z mm => ⟨o, (sb.2 b fun y => ?_).trans z, rfl⟩) bl, oe, vs, T, oT, ts, (sb.2 a (notC he hd)).trans he, hz, hd, hv, bl T hnT, hTe, (sb.2 T (notC hT hdT)).trans hT, hdT, h3⟩
      · have y := ne_of bC z
        rw [bO b y] at z
        exact (sb.2 b y).trans (k1 b o z)
      · rw [y, ← hs] at mm; exact out mm
    unfold PySem.passOn
    refine wpAny_bind (wpAny_field ((sb.2 a (notC he hd)).trans he) hd hv ?_)
    rw [if_neg (by simp)]
    have fin : wpAny (model X.prog X.w) X.A (setFlight (.ref a) ce.frame) (fun _ s4 => wpAny (model X.prog X.w) X.A (throw (.ref a) : Sem Value) (fun _ _ => False) X.xe s4) X.xe { s' with heap := h2 } := by
      rw [hcf, hf]
      refine HandSPX.setFlight_onZ held2 fun h4 held4 up4 => wpAny_throw (tk _ _ ?_)
      refine ⟨a, B2, { sI with heap := G, toks := sI.toks }, [], σ', H2, cls2, d2, rfl, J.turned (fun b o y z => (gO b y).trans z) w3 f1 f3 f4 (fun p hp => f5 p (List.mem_append_left _ (by simpa using hp))), fun b o z y => ?_, fun b o z y => ?_, .inr (.inr (by rw [hs]; exact held4)), na2, os2, ag2, w2⟩
      · have x := ne_of gC z
        rw [bO b x]
        exact nb b o (by rw [← gO b x]; exact z) y
      · have x := ne_of gC z
        have z' : sI.heap.get? b = some o := by rw [← gO b x]; exact z
        obtain ⟨l1, e1⟩ := up b o z' y
        obtain ⟨l2, e2⟩ := up1 b _ e1 y
        obtain ⟨l3, e3⟩ := up4 b _ ((sb.2 b x).trans e2) y
        exact ⟨l3, e3⟩
    first
      | exact wpAny_bind (wpAny_pure (wpAny_bind fin))
      | exact wpAny_bind fin
  rcases sky with ⟨hB, hn, hl, oe, vs, he, hz, hd, h1⟩ | fl | held
  · exact PXN.look_newZ L2N.Zn.steady hfr hl hf he hB hn hd h1 hz go
  · exact PXN.looks_onZ L2N.Zn.steady hfr hf fl go
  · exact HandSPX.againZ hf held.2.2.2 (go s'.heap held (Heap.UpToSlots.refl _))
/-- the block's context, errors going where xe says -/
abbrev Cx.blkx (X : Cx) (s : Shared) (H : Hp) (scope : Scope) (cenv : Env) (fp : List Addr) (xe : Value → Shared → Prop) : Cx :=
  { X with s_0 := s, H_0 := H, env := cenv, outer := X.stack, ex := fp, fn := fun x => scope.names.lookup x == some .cell, pn := [], xe := xe }
theorem Inv.blkx {X : Cx} {s s' : Shared} {H H' : Hp} {scope : Scope} {cenv : Env} {fp : List Addr} {xe : Value → Shared → Prop} {pins : List (Addr × Obj)} {σ : St} (I : Inv (X.blk s H scope cenv fp) pins σ H' s') : Inv (X.blkx s H scope cenv fp xe) pins σ H' s' :=
  have ok := I.ok
  ⟨⟨ok.mod, ok.kind, ok.glob, ok.blt, ok.above, ok.inj, ok.has, ok.cab, ok.hd, ok.frames, ok.stk, ok.exf, ok.bs, ok.bsz, ok.noex, ok.exfs, ok.funs, ok.frf⟩, I.os, I.bare, I.base, I.loc, I.cell, I.free, I.freeC, I.pin, I.hok, I.len⟩
/-- what the block's parts are to keep: whatever the place the errors go to, so long as a call's errors are taken there -/
def Within (X : Cx) (E : XK) (scope : Scope) (p : Cx → Prop) : Prop := ∀ (s : Shared) (H : Hp) (C : Addr) (cl : List (Str × Addr)) (fp : List Addr) (xe : Value → Shared → Prop),
  Passes (L2N.CX X.prog X.w) (X.blkx s H scope (compEnvC scope cl C X.env) fp xe) E → p (X.blkx s H scope (compEnvC scope cl C X.env) fp xe)
section
variable {X : Cx}
theorem lc_coreE {E : XK} {pins : List (Addr × Obj)} {s : Shared} {σ : St} {H : Hp} {Q : VK} {elt tg iter : Expr} {ifs : List Expr} {scope : Scope} {own : List (Str × Nat)} {pos pos' : Pos} {wi : TI} {g : TG} {tt : TT} {te : TE} {use : Option (Value → Sem Unit)} {Qf : Value → Shared → Prop}
    (hs : X.stack = X.env :: X.outer) (hf : X.env.frame = some X.env.locals) (tk : L2N.Takes X (fun c d _ H => E c d H))
    (hc : X.calm = true) (hN : X.N.Nodup) (I : Inv X pins σ H s) (hi : PI X tg iter wi) (ok : BlkOk X.N X.env.scope scope own)
    (hg : Within X E scope fun Y => PG Y tg g) (ht : Within X E scope fun Y => PTs Y ifs tt) (he : Within X E scope fun Y => PE Y elt te) (same : ∀ x, foldedSetIterable iter X.env x = pure x)
    (h : tLc wi g tt te (own.map (·.2)) σ H Q)
    (fin : ∀ D C s' m H', Inv X pins σ H' s' → Q (.ref D) H' → s'.heap.Ns C m → FpOk X pins H' C → compPost (model X.prog X.w) X.A X.xe use Qf (.ref D) C (.ok .next) s') :
    wpAny (model X.prog X.w) X.A (comprehension (.ListComp elt [⟨tg, iter, ifs, 0⟩] scope pos) scope X.env pos' (newList []) false (eval iter X.env) use) Qf X.xe s := by
  have held : ∀ y ∈ scope.names, y.2 = .free → ∃ c, X.env.cells.lookup y.1 = some c := fun y hy e => I.ok.has _ (ok.free y hy e)
  refine comp_errs (use := use) rfl same (closure_ok held) ok.kind (fun y hy e => by rw [ok.uniq y hy, e]) (thn (hi.run pins s σ H _ I h) fun xv s1 hx => thn hx fun itv s2 h2 => ?_)
  obtain ⟨it, fp, tn, J, H2, rfl, I2, T, st2, f2, plan⟩ := h2
  refine wpAny_newObj_type (newEnv_comp ?_) (by show 0 ≤ sizeLine; decide)
  -- the new list at D
  obtain ⟨D, hD⟩ : ∃ D, D = s2.heap.objs.size := ⟨_, rfl⟩
  rw [← hD]
  obtain ⟨W, ⟨m0, w0⟩, turn⟩ := plan D (I2.hok.fresh (Nat.le_of_eq hD.symm))
  obtain ⟨s3, hs3⟩ : ∃ s3 : Shared, s3 = { s2 with heap := s2.heap.push { cls := .type "list", data := .seq ([] : List Value).toArray } } := ⟨_, rfl⟩
  have h3 : s3.heap = s2.heap.push { cls := .type "list", data := .seq ([] : List Value).toArray } := by rw [hs3]
  have I3 : Inv X pins σ (upd H2 D (.lst [])) s3 := by
    rw [hs3]
    exact I2.laid (t' := s2.toks) (fun b o e => Heap.get?_push_of_some _ e) (Nat.le_of_eq hD.symm) ⟨Nat.zero_le _, [], 0, .nil, by rw [hD]; exact Heap.get?_push_size _ rfl⟩
  rw [← hs3]
  obtain ⟨H3, hH3⟩ : ∃ H3, H3 = upd H2 D (.lst []) := ⟨_, rfl⟩
  rw [← hH3] at I3 w0
  have old : ∀ b ∈ fp, b < s2.heap.objs.size := fun b hb => let ⟨o, e, _⟩ := T.obj _ _ st2 b hb; Heap.lt_size e
  have f3 : ∀ b ∈ fp, FpOk X pins H3 b ∧ b < s3.heap.objs.size := fun b hb => by
    have lt := old b hb
    have ne : b ≠ D := by rw [hD]; exact Nat.ne_of_lt lt
    exact ⟨⟨by rw [hH3, upd_ne ne]; exact (f2 b hb).1, (f2 b hb).2⟩, by rw [h3, size_new]; exact Nat.lt_succ_of_lt lt⟩
  have st3 : tn 0 s3.heap := T.keep _ _ _ st2 fun b _ o e => by rw [h3]; exact Heap.get?_push_of_some _ e
  obtain ⟨cl, hcl⟩ : ∃ cl, cl = cellsFrom (s3.heap.objs.size + 1) scope.names (cloFrom X.env.cells scope.names []) := ⟨_, rfl⟩
  obtain ⟨ce, hce⟩ : ∃ ce, ce = compEnvC scope cl s3.heap.objs.size X.env := ⟨_, rfl⟩
  have cL : ce.locals = s3.heap.objs.size := by rw [hce] <;> rfl
  have cF : ce.frame = X.env.frame := by rw [hce] <;> rfl
  obtain ⟨s4, hs4⟩ : ∃ s4 : Shared, s4 = { s3 with heap := pushCells (s3.heap.push { cls := .type "dict", data := .dict #[] }) scope.names } := ⟨_, rfl⟩
  have I4 : Inv (X.blk s3 H3 scope ce fp) [] (wipe σ (own.map (·.2))) H3 s4 := by rw [hs4, hce, hcl]; exact block_start I3 ok hN f3
  show codeAny _ _ (.compStart (.ListComp elt [⟨tg, iter, ifs, 0⟩] scope pos) 0 (.ref it) (.ref D) (compEnvC scope (cellsFrom (s3.heap.objs.size + 1) scope.names (cloFrom X.env.cells scope.names [])) s3.heap.objs.size X.env))
    (postE (model X.prog X.w) X.A X.xe use Qf (.ref D) (compEnvC scope (cellsFrom (s3.heap.objs.size + 1) scope.names (cloFrom X.env.cells scope.names [])) s3.heap.objs.size X.env)) { s3 with heap := pushCells (s3.heap.push { cls := .type "dict", data := .dict #[] }) scope.names }
  rw [← hcl, ← hce, ← hs4]
  have st4 : tn 0 s4.heap := T.keep _ _ _ st3 fun b _ o e => by rw [hs4]; exact pushCells_keeps _ _ _ _ (Heap.get?_push_of_some _ e)
  -- where a call's error goes
  let XE0 : Value → Shared → Prop := notedBy (model X.prog X.w) X.A ce (fun e s'' => postE (model X.prog X.w) X.A X.xe use Qf (.ref D) ce (.error e) s'')
  let Y : Cx := X.blkx s3 H3 scope ce fp XE0
  have back : ∀ {pins' : List (Addr × Obj)} {σ' : St} {H' : Hp} {s' : Shared}, Inv Y pins' σ' H' s' → Inv X pins σ H' s' ∧ FpOk X pins H' ce.locals ∧ ∃ m, s'.heap.Ns ce.locals m := fun {pins' σ' H' s'} K => by
    obtain ⟨m, hn, _⟩ := K.loc
    have none : H' s3.heap.objs.size = none := by rw [← cL]; exact K.free
    exact ⟨I3.call' (ch := fp) K.os K.base K.hok K.bare fun b hb => ⟨(f3 b hb).1.2.2.2.1, (f3 b hb).1.2.1, (f3 b hb).1.2.2.2.2.1, (f3 b hb).1.2.2.2.2.2⟩, by rw [cL]; exact I3.fpOk (Nat.le_refl _) none, m, hn⟩
  have pass : Passes (L2N.CX X.prog X.w) Y E := fun pins' σ' H' s' e s'' K c => by
    obtain ⟨a, b, m, d⟩ := back K
    exact blk_err hs hf tk cF a b d c
  have pg : PG Y tg g := by
    have z := hg s3 H3 s3.heap.objs.size cl fp XE0
    rw [← hce] at z
    exact z pass
  have pt : PTs Y ifs tt := by
    have z := ht s3 H3 s3.heap.objs.size cl fp XE0
    rw [← hce] at z
    exact z pass
  have pe : PE Y elt te := by
    have z := he s3 H3 s3.heap.objs.size cl fp XE0
    rw [← hce] at z
    exact z pass
  have stay : ∀ {pins' : List (Addr × Obj)} {σ' : St} {H' : Hp} {s' : Shared}, Inv Y [] σ' H' s' → (∀ b ∈ fp, H' b = none) → ∀ b ∈ fp, FpOk Y [] H' b := fun {_ σ' H' s'} K n b hb =>
    ⟨n b hb, (K.ok.exf b hb).1, K.ok.exfs b hb, .inl hb, (K.ok.exf b hb).2, fun p hp => absurd (show p ∈ ([] : List (Addr × Obj)) ++ [] from hp) (by simp)⟩
  have loop : codeAny (model X.prog X.w) X.A (.compLoop (.ListComp elt [⟨tg, iter, ifs, 0⟩] scope pos) 0 (.ref it) (.ref D) ce) (postE (model X.prog X.w) X.A X.xe use Qf (.ref D) ce) s4 := by
    refine compLoop_any (fun n s' => ∃ i H', Inv Y [] (wipe σ (own.map (·.2))) H' s' ∧ tn i s'.heap ∧ (∀ b ∈ fp, H' b = none) ∧ W i n H') ?_ m0 ⟨0, H3, I4.blkx, st4, fun b hb => (f3 b hb).1.1, w0⟩
    rintro n s5 ⟨i, H5, I5, st5, n5, w5⟩
    rcases turn i n H5 w5 with ⟨stop, q⟩ | ⟨go, Nx, next, step⟩
    · refine thnF (T.done Y rfl rfl rfl hc i [] s5 _ H5 (fun _ _ => False) I5 (stay (pins' := []) I5 n5) st5 stop) fun r s6 ⟨hr, I6⟩ => ?_
      subst hr
      obtain ⟨I7, f7, m, hn⟩ := back I6
      exact fin D ce.locals s6 m H5 I7 q hn f7
    · refine thnF (T.item Y rfl rfl rfl hc i [] s5 _ H5 (fun _ _ => False) I5 (stay (pins' := []) I5 n5) st5 go) fun r s6 ⟨u, hr, h6⟩ => ?_
      subst hr
      refine thnF h6 fun _ s7 ⟨x, H7, I7, r7, y7, st7, n7⟩ => ?_
      have P7 : Inv Y ([] ++ pinsAt fp s7.heap) (wipe σ (own.map (·.2))) H7 s7 := I7.pinned (stay (pins' := []) I7 n7) (T.obj _ _ st7)
      refine wpAny_mono (pg.run _ s7 _ H7 x u _ P7 r7 (step x H7 y7)) (fun _ s8 ⟨σ8, H8, I8, w8, q8⟩ => ?_) fun _ _ z => z
      refine wpAny_mono (pt.run _ s8 σ8 H8 _ I8 q8) (fun b s9 ⟨H9, I9, q9⟩ => ?_) fun _ _ z => z
      have ends : ∀ {s' : Shared} {H' : Hp}, Inv Y ([] ++ pinsAt fp s7.heap) σ8 H' s' → Nx H' → ∃ m, m < n ∧ ∃ i H', Inv Y [] (wipe σ (own.map (·.2))) H' s' ∧ tn i s'.heap ∧ (∀ b ∈ fp, H' b = none) ∧ W i m H' := fun {s' H'} K nx => by
        obtain ⟨m', lt, w'⟩ := next H' nx
        have pin : ∀ b ∈ fp, ∀ o, s7.heap.get? b = some o → s'.heap.get? b = some o ∧ H' b = none := fun b hb o e =>
          have z := K.pin (b, o) (List.mem_append_right _ (List.mem_append_right _ (mem_pinsAt hb e)))
          ⟨z.1, z.2.1⟩
        have long : (wipe σ (own.map (·.2))).length = σ8.length := by rw [← w8, wipe_length]
        refine ⟨m', lt, i + 1, H', (K.unpinned (pins := [])).weak long (fun j v e => by rw [← w8] at e; exact (wipe_some e).1), T.keep _ _ _ st7 fun b hb o e => (pin b hb o e).1, fun b hb => ?_, w'⟩
        obtain ⟨o, e, _⟩ := T.obj _ _ st7 b hb
        exact (pin b hb o e).2
      cases b with
      | false => simp only [Bool.false_eq_true, if_false] at q9 ⊢; exact ends I9 q9
      | true =>
        simp only [if_true] at q9 ⊢
        refine wpAny_mono (pe.run _ s9 σ8 H9 _ I9 q9) (fun z s10 ⟨yv, H10, I10, r10, acc, d10, z10, nx⟩ => ?_) fun _ _ z => z
        exact app_ok (X := Y) I10 d10 z10 r10 fun s11 I11 => ends I11 nx
  exact codeAny_compStart_list loop (T.self X.A 0 _ _ _ st4 loop)
/-- name = [..], the name a local, on one line -/
theorem ps_setLcE {E : XK} {i : Nat} {y : Str} {py spos : Pos} {elt tg iter : Expr} {ifs : List Expr} {scope : Scope} {own : List (Str × Nat)} {pos : Pos} {wi : TI} {g : TG} {tt : TT} {te : TE} (hs : X.stack = X.env :: X.outer) (hf : X.env.frame = some X.env.locals) (tk : L2N.Takes X (fun c d _ H => E c d H))
    (hc : X.calm = true) (hN : X.N.Nodup) (hy : X.N[i]? = some y) (hyl : X.env.scope.names.lookup y = some .local) (hsw : swapsWith (.ListComp elt [⟨tg, iter, ifs, 0⟩] scope pos) (some (.Name y py)) spos.line X.env = pure true) (hi : PI X tg iter wi) (ok : BlkOk X.N X.env.scope scope own)
    (hg : Within X E scope fun Y => PG Y tg g) (ht : Within X E scope fun Y => PTs Y ifs tt) (he : Within X E scope fun Y => PE Y elt te) (same : ∀ x, foldedSetIterable iter X.env x = pure x := by intro _; rfl) :
    PS X (.Assign [.Name y py] (.ListComp elt [⟨tg, iter, ifs, 0⟩] scope pos) spos) (tAsg (tLc wi g tt te (own.map (·.2))) (gName i)) := by
  refine ⟨fun pins s σ H D I h => ?_⟩
  rw [exec_Assign_Name_used _ _ _ _ hsw]
  apply wpAny_bind; apply wpAny_standAt; apply wpAny_bind
  show wpAny _ X.A ((comprehension (.ListComp elt [⟨tg, iter, ifs, 0⟩] scope pos) scope X.env (firstIterPos [⟨tg, iter, ifs, 0⟩] pos) (newList []) false (eval iter X.env) (some (assign (.Name y py) X.env))) >>= fun _ => pure ()) _ _ s
  have plan : tLc wi g tt te (own.map (·.2)) σ H (fun x H1 => gName i x σ H1 D.nx) := h
  refine wpAny_bind (wpAny_mono (lc_coreE (Qf := fun _ s' => SP X pins D .next s') hs hf tk hc hN I hi ok hg ht he same plan fun L C s' m H' J q hn ⟨f0, f1, _, f3, f4, f5⟩ => ?_) (fun _ s' q => wpAny_pure (wpAny_pure q)) fun _ _ z => z)
  show wpAny _ X.A (assign (.Name y py) X.env (.ref L)) _ _ s'
  refine wpAny_assign_Name (store_ok2 (v := V.ref L) J hN hy (.inl hyl) rfl (fun s2 I2 ⟨a, sb, ha⟩ => ?_) (.inr hyl))
  have ne : C ≠ a := ha.elim (fun z => by rw [z]; exact f1) fun z e => f4 y a z e.symm
  exact ⟨m, hn.sameBut sb ne, fun h3 sb3 => ⟨_, H', I2.turned (t' := s2.toks) (fun b o hb e => (sb3.2 b hb).trans e) f0 f1 f3 f4 f5, q⟩⟩
end
end L2
/-! Comprehensions over a range, and all(list), in a def that is called while an error is handled. -/
namespace HotX
open PySem PySem.Spec PyProof.Rows
end HotX
namespace L2
open PySem PySem.Spec PyProof.Rows HotX
end L2
/-! for and comprehensions over a list in a def that is called while an error is handled. -/
namespace L2
open PySem PySem.Spec PyProof.Rows HotX
end L2
/-! min(i, j) in a def or a suite where an error is handled. -/
namespace HotX
open PySem PySem.Spec PyProof.Rows
end HotX
namespace L2
open PySem PySem.Spec PyProof.Rows HotX
end L2
/-! try: .. with several «except X as n:» of one name n. -/
/-! isinstance(e, (A, B, ..)), e the error that the suite holds; an error's exceptions where a def with a star binds. -/
namespace L2
open PySem PySem.Spec PyProof.Rows Er
def rIsFT (K : PySem.W.Frag) (D a : Addr) (cls : Value) (dd : Option Addr) : List V → Hp → VK → Prop := fun xs H Q => cls = .ref D ∧ ∃ (t : Addr) (cs : List V) (cvs : List Value) (b : Bool), xs = [.ref a, .ref t] ∧ SqT K H t cs ∧ (∀ us, Vals cs us → us = cvs) ∧ (∀ dx, dd = some dx → ∃ fs, H dx = some (.xd fs)) ∧ PySem.W.kitAny K (.ref D) cvs = some b ∧ Q (.bl b) H
theorem call_isFT {X : Cx} {a D : Addr} {cls : Value} {dd : Option Addr} {oe : Obj} {pn : List (Addr × Obj)} (C : ExcC X.K D) (hz : Zc cls dd oe) (hf : ∃ vs, oe.data = .fields vs) : CallR (X.suite a ((a, oe) :: pn)) (.builtin "isinstance") (rIsFT X.K D a cls dd) := by
  intro pins s σ H xs us Q I r h
  obtain ⟨ecls, t, cs, cvs, b, rfl, ht, hcv, hdd, e, q⟩ := h
  subst ecls
  cases r with
  | cons rx rr =>
    cases rr with
    | cons rt rr =>
      cases rr
      cases rx
      cases rt
      obtain ⟨its, rv, ⟨o, ho, hc, n, hd⟩, _⟩ := I.tuple ht
      obtain ⟨oc, od, oda, osl⟩ := o
      dsimp only at hc hd
      subst hc hd
      obtain ⟨hget, _⟩ := I.pin (a, oe) (List.mem_append.mpr (.inl List.mem_cons_self))
      obtain ⟨vs, hv⟩ := hf
      have hcl : (PySem.W.clsIn X.K D).isSome = true := by
        obtain ⟨cd, hc, _⟩ := PySem.W.any_some C.hd
        rw [hc]
        rfl
      have J : ∃ od, PySem.W.InstAt s.heap a oe D od := by
        obtain ⟨ec, ed, eda, esl⟩ := oe
        obtain ⟨h1, h2⟩ := hz
        dsimp only at h1 h2 hv
        subst h1 h2 hv
        cases ed with
        | none => exact ⟨none, hget, rfl, rfl, trivial⟩
        | some dx =>
          obtain ⟨fs, hx⟩ := hdd dx rfl
          have ok : ObjOk X.prog X.w H s.heap dx (.xd fs) := I.hok dx _ hx
          obtain ⟨mA, hns, hr⟩ := ok
          obtain ⟨od, ho, hl⟩ := lookIn_ns hns
          exact ⟨some od, hget, rfl, rfl, ho⟩
      obtain ⟨od', J⟩ := J
      have ei : its = cvs := hcv its rv
      subst ei
      exact PySem.W.kia_tup (PySem.W.kitx_exc hcl C.hg C.hk C.hs C.ha C.hn C.ht C.hm) I.kIn J ho e (fun z => nomatch z) fun tk => ⟨.bl b, H, I.kept (t' := tk) fun _ _ z => z, rfl, q⟩
open StX in
theorem cxUpN {P : Program} {w : World} : CXUp (L2N.CX P w) := by
  rintro outer s H s2 H2 E e s' un kp ho ⟨a, B, H', cls, d, ea, fl, hok, ub, na, os, ag, he⟩
  have old : ∀ b o, s.heap.get? b = some o → H b = none → H2 b = none := fun b o q n => un.free b o q n (by simp)
  refine ⟨a, B, H', cls, d, ea, fl, hok, ⟨fun b o q n => ub.keep b o (kp b o q) (old b o q n), fun b o q => ub.slot b o (kp b o q), fun b o q n => ub.free b o (kp b o q) (old b o q n), fun b o q => ub.there b o (kp b o q), fun b xs q => ub.tups b xs (un.tups b xs q), fun b o xs q => ub.frzs b o xs (un.frzs b o xs q), fun b ps q => ?_⟩, na, os.trans ho, ag, he⟩
  obtain ⟨m1, e1⟩ := un.tbls b ps q
  obtain ⟨m2, e2⟩ := ub.tbls b _ e1
  exact ⟨m1 ++ m2, by rw [e2, Array.append_assoc]⟩
/-- a def f(self, .., *v) that may let errors out: what is left over is a new tuple -/
theorem Fun.okStar {P : Program} {w : World} {K : PySem.W.Frag} {mg : Str → Option Value} {base : Heap} {x qual pv : Str} {st : Stmt} {f : Addr} {fd : FuncData} {N ps : List Str} {k : Nat} {sp : Sp} (F : Fun K x qual st f fd) (S : FnScope N (ps ++ [pv]) (defScope st))
    (bind : ∀ (kV doc pm : Value) (an : Option Addr) (cdv ct : Value) (us rest : List Value), us.length = ps.length → bindArgs (PySem.W.fnOf x qual (defArgs st) (defBody st) (defScope st) .none kV doc pm an cdv ct) ⟨us ++ rest, []⟩ = (newTuple rest >>= fun t => pure (ps.zip us ++ [(pv, t)])))
    (hbody : ∀ (cdv : Value) (A : Around) (outer : List Env) (s : Shared) (H : Hp) (vs : List V) (Q : VK) (E : XK), Room k (A.deeper (envOfC qual (defScope st) s.heap.objs.size f cdv)) → sp vs H Q E →
      ∃ t, PSs (cxOf (L2N.CX P w) P w K mg base N qual (defScope st) f cdv A outer s H E) (defBody st) t ∧ t { nx := fun _ H' => Q .non H', rt := Q } (start N vs) H) :
    FnR P w K mg base (L2N.CX P w) (k + 1) f (fun vs H Q E => ∃ ws rest, vs = ws ++ rest ∧ ws.length = ps.length ∧ rest.length ≤ sizeLine ∧ ∀ p, H p = none → sp (ws ++ [V.ref p]) (upd H p (.tup rest)) Q E) := by
  obtain ⟨oc, od, kV, doc, pm, an, cdv, ct, osl, rfl, lk, hcd⟩ := F.ex
  exact StX.fn_star lk hcd S cxUpN (bind _ _ _ _ _ _) fun A outer s H vs Q E hr h => hbody cdv A outer s H vs Q E hr h
end L2
/-! Own containers: len(o), x in o, list(o) by the class's own __len__, __contains__, __iter__ (that gives iter(a tuple)); own operators without reflected ones; comparisons of two own objects; C(*xs); t == u of tuples of texts. -/
namespace L2
open PySem PySem.Spec PyProof.Rows Er
section
variable {prog : Program} {w : World} {A : Around} {E : Value → Shared → Prop} {s : Shared} {K : PySem.W.Frag} {x C g : Addr} {ox : Obj} {od : Option Obj}
/-- len(o) by the class's own __len__ -/
theorem len_ownK {Q : Value → Shared → Prop} (X : K.In s.heap) (J : PySem.W.InstAt s.heap x ox C od) (hf : PySem.W.findIn K (.ref C) "__len__" = some (some (.ref g))) (fn : PySem.W.typeIn K (.ref g) = some (.type "function"))
    (h : wpAny (model prog w) A.in1 (call (.ref g) [.ref x]) (fun r s' => ∃ n u, r = .int n u ∧ 0 ≤ n ∧ n < 2 ^ 63 ∧ Q (.int n s'.toks) { s' with toks := s'.toks + 1 }) E s) : wpAny (model prog w) A (call (.builtin "len") [.ref x]) Q E s := by
  refine Calls.call_function_entry PySem.kind_len PySem.plain_len PySem.entry_len (PySem.args_len1 _) ?_
  unfold Builtin.«len»
  refine wpAny_bind (m := oneArg "len" _) (wpAny_pure ?_)
  refine wpAny_bind (m := callSpecial? (.ref x) (Str.ofString "__len__")) (PySem.W.special_fn X J hf fn (wpAny_mono h (fun r s' hr => ?_) fun _ _ y => y))
  obtain ⟨n, u, rfl, h0, h1, hq⟩ := hr
  refine wpAny_bind (wpAny_holding (wpAny_pure ?_))
  refine wpAny_bind (wpAny_letGo ?_)
  show wpAny _ _ (if n < 0 then _ else _) _ _ _
  rw [if_neg (by omega)]
  show wpAny _ _ (if n ≥ 2 ^ 63 then _ else _) _ _ _
  rw [if_neg (by omega)]
  exact wpAny_bind (wpAny_mkInt (wpAny_pure ⟨_, rfl, hq⟩))
end
section
variable {X : Cx} {CX CX1 : CXT} {C f g : Addr} {fd gd : FuncData} {k : Nat} {sp : Sp} {E : XK}
/-- len(o) -/
def rLenO (C : Addr) (sp : Sp) (E : XK) : List V → Hp → VK → Prop := fun xs H Q => ∃ a dx fs, xs = [.ref a] ∧ H a = some (.ins C dx fs) ∧ sp [.ref a] H (fun v H' => ∃ n : Nat, v = .int n ∧ n < 1000 ∧ Q v H') E
theorem call_lenO (hf : PySem.W.findIn X.K (.ref C) "__len__" = some (some (.ref g))) (hi : PySem.W.typeIn X.K (.ref g) = some (.type "function"))
    (F : FnOk X.prog X.w X.K X.mg X.base CX k g fd ["self"] sp) (hr : Room (k + 1) X.A) (b : Binds X.K fd ["self"] []) (hx : Passes CX X E) : CallR X (.builtin "len") (rLenO C sp E) := by
  intro pins s σ H xs us Q I r h
  obtain ⟨a, dx, fs, rfl, ha, h⟩ := h
  cases r with
  | cons rx rr =>
    cases rr
    cases rx
    obtain ⟨_, J⟩ := inst_of' I ha
    refine len_ownK I.kIn J hf hi ?_
    have hr' : Room k ({ X.A with units := X.A.units + 1 } : Around) := ⟨hr.hd, by have := hr.dp; show X.A.depth + 3 * k + 5 < _; omega, by have := hr.un; show X.A.units + 1 + 16 * k + 200 < cLine; omega⟩
    have z := run_fn (X := { X with A := { X.A with units := X.A.units + 1 } }) (CX := CX) (Q := fun v H' => ∃ n : Nat, v = .int n ∧ n < 1000 ∧ Q v H') (vs := [.ref a]) (us := [.ref a]) F hr' b .nil (fun pins σ H s e s' I' h' => hx pins σ H s e s' I'.out1 h') (I.in1 _) (.cons rfl .nil) h
    refine thn z fun u s1 hh => ?_
    obtain ⟨v, H1, I1, rv, n, ev, hn, q⟩ := hh
    subst ev
    obtain ⟨t, rfl⟩ := rv
    exact ⟨n, t, rfl, by omega, by omega, .int n, H1, I1.out1.tok _, ⟨_, rfl⟩, q⟩
/-- x in o -/
def rInO (C : Addr) (neg : Bool) (sp : Sp) (E : XK) : R2 := fun x y H Q => ∃ a dx fs, y = .ref a ∧ H a = some (.ins C dx fs) ∧ sp [y, x] H (fun v H' => ∃ b, v = .bl b ∧ Q (.bl (if neg then !b else b)) H') E
end
/-! ### C(*xs) -/
section
variable {X : Cx} {CX : CXT} {k : Nat} {f C : Addr} {sp : Sp} {E : XK} {x : Str} {e : Expr} {te : TE} {p sp_ pos : Pos}
def tMakeS (K : PySem.W.Frag) (C : Addr) (sp : Sp) (E : XK) (te : TE) : TE := fun σ H Q => te σ H fun y H1 => ∃ a xs, y = V.ref a ∧ (SqT K H1 a xs ∨ SqL K H1 a xs) ∧ ∀ x dx, H1 x = Option.none → H1 dx = Option.none → dx ≠ x →
  sp (V.ref x :: xs) (upd (upd H1 dx (.own x)) x (.ins C dx [])) (fun v H2 => v = .non ∧ Q (.ref x) H2) E
end
/-! ### iter(t) of a tuple, list(o) -/
def TItE : HO := .ext fun _ => True
section
variable {X : Cx} {pins : List (Addr × Obj)} {σ : St} {H : Hp} {s : Shared} {t it : Addr} {i : Nat}
theorem titE_ok {P : Program} {w : World} {H : Hp} {h : Heap} (e : ∃ o, h.get? it = some o) : ObjOk P w H h it TItE := ⟨trivial, e, fun _ _ _ _ => trivial⟩
end
/-- a class whose instances are walked by what __iter__ gives, with a length -/
structure LtC (K : PySem.W.Frag) (C fi fl : Addr) : Prop where
  it : PySem.W.findIn K (.ref C) "__iter__" = some (some (.ref fi))
  itF : PySem.W.isFn K (.ref fi) = true
  ln : PySem.W.findIn K (.ref C) "__len__" = some (some (.ref fl))
  lnF : PySem.W.typeIn K (.ref fl) = some (.type "function")
section
variable {X : Cx} {pins : List (Addr × Obj)} {σ : St} {H : Hp} {s : Shared} {A1 : Around} {q it t : Addr}
theorem upd_two {H : Hp} {a b : Addr} {o o' u u' : HO} (ne : b ≠ a) : upd (upd (upd (upd H a o) b u) a o') b u' = upd (upd H a o') b u' := by
  funext c
  by_cases hb : c = b
  · rw [hb, upd_same, upd_same]
  · rw [upd_ne hb, upd_ne hb]
    by_cases ha : c = a
    · rw [ha, upd_same, upd_same]
    · rw [upd_ne ha, upd_ne ha, upd_ne hb, upd_ne ha]
theorem upd_two' {H : Hp} {a b : Addr} {o o' u : HO} (ne : b ≠ a) : upd (upd (upd H a o) b u) a o' = upd (upd H a o') b u := by
  funext c
  by_cases ha : c = a
  · rw [ha, upd_same, upd_ne ne.symm, upd_same]
  · rw [upd_ne ha]
    by_cases hb : c = b
    · rw [hb, upd_same, upd_same]
    · rw [upd_ne hb, upd_ne hb, upd_ne ha, upd_ne ha]
end
section
variable {X : Cx} {C fi fl : Addr} {fdI fdL : FuncData} {spI spL : Sp} {n : Nat}
theorem run0 {A : Around} {pins : List (Addr × Obj)} {σ : St} {H : Hp} {s : Shared} {Q : VK} {f a : Addr} {fd : FuncData} {sp : Sp} {P : Value → Shared → Prop} (sb : Sub X n A) (F : FnOk X.prog X.w X.K X.mg X.base CX0 n f fd ["self"] sp) (b : Binds X.K fd ["self"] []) (I : Inv X pins σ H s) (h : sp [.ref a] H Q E0)
    (k : ∀ v H' u s', Inv X pins σ H' s' → RelV v u → Q v H' → P u s') {E : Value → Shared → Prop} : wpAny (model X.prog X.w) A (call (.ref f) [.ref a]) P E s := by
  have e0 : Env0 X.prog X.w X.K X.mg X.base A X.stack s H := by
    have e := I.env0
    exact ⟨by rw [sb.fr]; exact e.frames, e.mod, e.bs, e.bsz, e.funs, e.frf, e.hok, e.bare⟩
  have hl := F.len _ _ _ _ h
  have r2 : Vals [V.ref a] [Value.ref a] := .cons rfl .nil
  have bb := b s [.ref a] I.kIn (by simpa using hl)
  refine wpAny_call (codeAny_mono (F.run A X.stack s H ⟨[.ref a], []⟩ [.ref a] [.ref a] Q E0 sb.room e0 (by simpa using bb) r2 h) fun r s' hq => ?_)
  cases r with
  | error e => exact False.elim hq
  | ok fl =>
    cases fl with
    | ret u =>
      obtain ⟨v, H', I', rv, q⟩ := I.after hq
      exact k v H' u s' I' rv q
    | next => exact False.elim hq
    | brk => exact False.elim hq
    | cont => exact False.elim hq
end
/-! ### t == u of two tuples of texts -/
theorem dp_txts {K : PySem.W.Frag} {H : Hp} {a : Addr} : ∀ L : List Str, DpAll K H (L.map V.str) (L.map PyData.str)
  | [] => .nil
  | z :: r => .cons (.str z) (dp_txts (a := a) r)
theorem strOk_asc {z : Str} (h : ∀ c ∈ z.cps.toList, c < 128) : PyData.strOk z = true := by
  unfold PyData.strOk
  rw [Array.all_eq_true]
  intro i hi
  have m : z.cps[i] ∈ z.cps.toList := by simp
  exact decide_eq_true (Nat.lt_trans (h _ m) (by decide))
/-- signs of the common kind -/
def Asc (L : List Str) : Prop := ∀ z ∈ L, ∀ c ∈ z.cps.toList, c < 128
theorem lay_txts : ∀ L : List Str, Asc L → PyData.canLayAll0 (L.map PyData.str) = true
  | [], _ => rfl
  | z :: r, h => by
    show (PyData.strOk z && PyData.canLayAll0 (r.map PyData.str)) = true
    rw [lay_txts r fun y hy => h y (List.mem_cons_of_mem _ hy), Bool.and_true]
    exact strOk_asc (h z List.mem_cons_self)
theorem depth_txts : ∀ L : List Str, PyData.depthAll (L.map PyData.str) = 0
  | [] => rfl
  | z :: r => by
    show max (PyData.depth (.str z)) (PyData.depthAll (r.map PyData.str)) = 0
    rw [depth_txts r]
    rfl
theorem eqv_txts : ∀ L M : List Str, PyData.eqvAll (L.map PyData.str) (M.map PyData.str) = decide (L = M)
  | [], [] => rfl
  | [], _ :: _ => rfl
  | _ :: _, [] => rfl
  | x :: xs, y :: ys => by
    show ((x == y) && PyData.eqvAll (xs.map PyData.str) (ys.map PyData.str)) = _
    rw [eqv_txts xs ys]
    by_cases e : x = y
    · subst e
      simp
    · have e2 : (x == y) = false := beq_eq_false_iff_ne.mpr e
      rw [e2]
      simp [e]
end L2
/-! an own operator, and C(*xs), where what is raised is wished for at the caller's slots -/
namespace L2
open PySem PySem.Spec PyProof.Rows Er
end L2
/-! o(x), o and x locals: a term that says nothing of the caller's frame, for use in a comprehension -/
namespace L2
open PySem PySem.Spec PyProof.Rows Er StX
end L2
/-! an own method, defaults and all, where what it raises is wished for at the caller's slots -/
namespace L2
open PySem PySem.Spec PyProof.Rows
end L2
/-! o(x), x any expression: a term that says nothing of the caller's frame; the same where what is raised is wished for at the caller's slots -/
namespace L2
open PySem PySem.Spec PyProof.Rows Er StX
section
variable {X : Cx} {CX1 : CXT} {C g : Addr} {k : Nat} {sp : Sp} {E : XK} {ES : St → XK} {fe e : Expr} {es : List Expr} {pos : Pos} {tf : TE} {t : TA}
theorem run_fnRS {pins : List (Addr × Obj)} {σ : St} {H : Hp} {s : Shared} {Q : VK} {f : Addr} {us : List Value} {vs : List V} (F : FnR X.prog X.w X.K X.mg X.base CX1 k f sp) (hr : Room k X.A) (hx : PassesAt CX1 X σ (ES σ)) (I : Inv X pins σ H s) (r : Vals vs us) (h : sp vs H Q (ES σ)) :
    codeAny (model X.prog X.w) X.A (.call (.ref f) ⟨us, []⟩) (fun r s' => match r with | .ok (.ret v) => EP X pins σ Q v s' | .ok _ => False | .error e => X.xe e s') s :=
  codeAny_mono (F X.A X.stack s H us vs Q (ES σ) hr I.env0 r h) fun r s' hq => by
    match r, hq with
    | .error e, hq => exact hx pins H s e s' I hq
    | .ok (.ret u), hq => exact I.after hq
end
end L2
/-! C.m(..), m a classmethod, where what is raised is wished for at the caller's slots -/
namespace ClX
open PySem PySem.Spec PyProof.Rows L2
section
variable {X : Cx} {CX : CXT} {k : Nat} {C p g : Addr} {mc : Value} {sp : Sp} {E : L2.St → XK} {o e : Expr} {es : List Expr} {m : Str} {pos apos : Pos} {ta : TE} {t : TA} {pl : Sem Bool}
def tCMethS (C : Addr) (sp : Sp) (E : L2.St → XK) (ta : TE) (t : TA) : TE := fun σ H Q => ta σ H fun x H1 => x = .ref C ∧ t σ H1 fun vs H2 => sp (.ref C :: vs) H2 Q (E σ)
theorem run_cmS {q : Addr} {Q : VK} {us : List Value} {vs : List V} {pins : List (Addr × Obj)} {σ : L2.St} {H : Hp} {s : Shared} (F : FnR X.prog X.w X.K X.mg X.base CX k g sp) (hr : Room k X.A) (hx : PassesAt CX X σ (E σ)) (I : Inv X ((q, PySem.W.methodObj (.ref g) (.ref C)) :: pins) σ H s)
    (r : Vals vs us) (h : sp (.ref C :: vs) H Q (E σ)) : wpAny (model X.prog X.w) X.A (call (.ref q) us) (EP X pins σ Q) X.xe s := by
  have z : wpAny (model X.prog X.w) X.A (call (.ref q) us) (EP X ((q, PySem.W.methodObj (.ref g) (.ref C)) :: pins) σ Q) X.xe s :=
    wpAny_call (PySem.W.method_call (pin_at I) (run_fnRS (us := .ref C :: us) (vs := .ref C :: vs) F hr hx I (.cons rfl r) h))
  exact thn z fun _ _ y => unpinE y
theorem pe_cmethS (he : PE X o ta) (r : CRead X.K C mc) (c : CMet X.K C mc m p g) (F : FnR X.prog X.w X.K X.mg X.base CX k g sp) (hr : Room k X.A) (hx : ∀ σ, PassesAt CX X σ (E σ)) (ha : PA X (e :: es) t)
    (hst : starEach (e :: es) X.env = (false, eval e X.env) :: starEach es X.env := by rfl) (hpl : (backTo pos (starEach es X.env)).any (·.1) = false := by rfl)
    (ht : eval (.Call (.Attribute o m apos) (e :: es) [] pos) X.env = (do
      let ov ← eval o X.env
      standAt apos.atName
      let (f, first) ← holding [ov] (getMethod ov m pl)
      callWith pos f first (backTo pos (starEach (e :: es) X.env)) (backToKw pos (keywordEach [] X.env))) := by rfl) :
    PE X (.Call (.Attribute o m apos) (e :: es) [] pos) (tCMethS C sp E ta t) := by
  refine ⟨fun pins s σ H Q I h => ?_⟩
  refine PySem.W.methodCall_KW (pl := pl) (thn (he.run pins s σ H _ I h) fun u s1 ⟨x, H1, I1, rx, ex, q⟩ => ?_) ht
  subst ex
  obtain rfl : u = Value.ref C := rx
  refine getmethcm_ok I1 r c fun s2 I2 => ?_
  refine callwith_cm I2 (base_none I1 (Nat.le_refl _)) c.fi (thn (ha.run pos _ s2 σ H1 _ I2 q) fun us s3 ⟨vs, H2, I3, rv, q2⟩ => ⟨⟨pin_at I3, I3.kIn⟩, ?_⟩) hst hpl
  exact run_cmS F hr (hx σ) I3 rv q2
end
end ClX
/-! l == m of two lists of texts -/
namespace L2
open PySem PySem.Spec PyProof.Rows Er
theorem shaped_txtL (L : List Str) (h : Asc L) : SeqAt.shaped (.list (L.map PyData.str)) = true := by
  unfold SeqAt.shaped
  have a : PyData.canLay0 (.list (L.map PyData.str)) = true := lay_txts L h
  have b : PyData.depth (.list (L.map PyData.str)) = PyData.depthAll (L.map PyData.str) + 1 := rfl
  rw [a, b, depth_txts]
  rfl
end L2
/-! l != m of two lists of texts -/
namespace L2
open PySem PySem.Spec PyProof.Rows Er
def rNeLL (K : PySem.W.Frag) : R2 := fun x y H Q => ∃ (a b : Addr) (L M : List Str), x = .ref a ∧ y = .ref b ∧ SqL K H a (L.map V.str) ∧ SqL K H b (M.map V.str) ∧ Asc L ∧ Asc M ∧ Q (.bl (!decide (L = M))) H
theorem op_neLL {X : Cx} (hu : X.A.units + 64 < cLine) : OpR X (compareOp .NotEq) (rNeLL X.K) := fun pins s σ H x y v u Q I rx ry h => by
  obtain ⟨a, b, L, M, rfl, rfl, ha, hb, l1, l2, q⟩ := h
  refine op_neD hu pins s σ H _ _ v u Q I rx ry ⟨_, _, .lst ha (dp_txts (a := a) L), .lst hb (dp_txts (a := b) M), shaped_txtL L l1, shaped_txtL M l2, ?_⟩
  have e : PyData.eqv (.list (L.map PyData.str)) (.list (M.map PyData.str)) = decide (L = M) := eqv_txts L M
  rw [e]
  exact q
end L2
/-! x = e; behind it a token is out. o.replace(y, [z0, z1, z2][i]) of written texts. -/
namespace L2
open PySem PySem.Spec PyProof.Rows
section
variable {X : Cx} {pins : List (Addr × Obj)} {σ : St} {H : Hp} {s : Shared}
/-- a local name is stored: what stands then, and a token is out -/
theorem store_tok {M : Model} {A : Around} {E : Value → Shared → Prop} {i : Nat} {x : Str} {v : V} {u : Value} (I : Inv X pins σ H s) (hN : X.N.Nodup) (hi : X.N[i]? = some x) (hl : X.env.kindOf x = some .local) (r : RelV v u) :
    wpAny M A (storeName X.env x u) (fun _ s' => 1 ≤ s'.toks ∧ Inv X pins (σ.set i (some v)) H s') E s := by
  obtain ⟨m, hn, look⟩ := id I.loc
  have hcls : (X.env.scope.kind == .class || (X.env.scope.kind == .module && X.env.locals != X.env.globals)) = false := by rw [I.ok.kind]; rfl
  have hiσ : i < σ.length := by rw [I.len]; exact (List.getElem?_eq_some_iff.mp hi).1
  refine wpAny_storeName_local hl hn (fun h' hn' sb => ⟨Nat.le_add_left 1 s.toks, ?_⟩) hcls
  have low : ∀ {b : Addr} {o : Obj}, X.s_0.heap.get? b = some o → h'.get? b = s.heap.get? b := fun {b o} e => sb.2 b (Nat.ne_of_lt (Nat.lt_of_lt_of_le (Heap.lt_size e) I.ok.above))
  refine ⟨I.ok, I.os, I.bare, ⟨fun b o e n hb hx => (low e).trans (I.base.keep b o e n hb hx), fun b o e n hb hx => ?_, I.base.free, fun b o e hx => ?_, I.base.tups, I.base.frzs, I.base.tbls⟩, ⟨_, hn', fun j y w e1 e2 e3 => ?_⟩, fun y c e => ?_, I.free, I.freeC, fun p hp => ?_, fun b ob e => ?_, by simpa using I.len⟩
  · obtain ⟨sl, q⟩ := I.base.slot b o e n hb hx
    exact ⟨sl, (low e).trans q⟩
  · obtain ⟨o', q⟩ := I.base.there b o e hx
    exact ⟨o', (low e).trans q⟩
  · by_cases nj : j = i
    · subst nj
      rw [List.getElem?_set_self hiσ] at e2
      cases e2
      have ey : y = x := Option.some.inj (e1.symm.trans hi)
      subst ey
      exact ⟨u, r, .inl ⟨hl, if_pos rfl⟩⟩
    · rw [List.getElem?_set_ne (Ne.symm nj)] at e2
      obtain ⟨u', r', q⟩ := look j y w e1 e2 e3
      have ny : y ≠ x := fun z => nj (nodup_ix hN e1 (z ▸ hi))
      refine ⟨u', r', ?_⟩
      rcases q with ⟨k, e⟩ | ⟨k, c, e, z⟩
      · exact .inl ⟨k, (if_neg ny).trans e⟩
      · exact .inr ⟨k, c, e, z.sameBut sb (I.cne y c e)⟩
  · obtain ⟨w, z⟩ := I.cell y c e
    exact ⟨w, z.sameBut sb (I.cne y c e)⟩
  · obtain ⟨e, nh, ne, nf, d⟩ := I.pin p hp
    exact ⟨(sb.2 p.1 ne).trans e, nh, ne, nf, d⟩
  · refine (I.hok b ob e).stay (fun c w hc q => (sb.2 c ?_).trans q) (fun _ q => q) fun _ _ q => q
    rintro rfl
    rcases hc with hc | hc
    · rw [← hc, I.free] at e
      cases e
    · rw [I.free] at hc
      cases hc
theorem pss_setT {i : Nat} {x : Str} {e : Expr} {te : TE} {rest : List Stmt} {u : TS} {pos' pos : Pos} (hN : X.N.Nodup) (hi : X.N[i]? = some x) (hl : X.env.kindOf x = some .local) (he : PE X e te) (h2 : PSsT X rest u)
    (hs : swapsWith e (some (.Name x pos')) pos.line X.env = pure false := by rfl) : PSs X (.Assign [.Name x pos'] e pos :: rest) (tSeq (tAsg te (gName i)) u) := by
  refine ⟨fun pins s σ H D I h => ?_⟩
  refine wpAny_execs_cons (wpAny_Assign_Name (thn (he.run pins s σ H _ I h) fun v s1 ⟨w, H1, I1, r1, q1⟩ => ?_) hs)
  exact wpAny_mono (store_tok I1 hN hi hl r1) (fun _ s2 q2 => h2 pins s2 _ H1 D q2.1 q2.2 q1) fun _ _ z => z
end
end L2
/-! o[x] by the class's own __getitem__; the same in a try -/
namespace L2
open PySem PySem.Spec PyProof.Rows Er
section
variable {X : Cx} {CX1 : CXT} {C f : Addr} {fd : FuncData} {k : Nat} {sp : Sp} {E : XK} {ES : St → XK} {a b : Expr} {ta tb : TE} {pos : Pos} {p2 : Str}
/-- the class's own o[x] -/
structure GetO (K : PySem.W.Frag) (C f : Addr) : Prop where
  at_ : PySem.W.findIn K (.ref C) "__getitem__" = some (some (.ref f))
  fi : PySem.W.fnIn K f = true
  fn : PySem.W.isFn K (.ref f) = true
def tSubOS (C : Addr) (sp : Sp) (E : St → XK) (ta tb : TE) : TE := fun σ H Q => ta σ H fun x H1 => tb σ H1 fun y H2 => ∃ (o dx : Addr) (fs : List (Str × V)), x = .ref o ∧ H2 o = some (.ins C dx fs) ∧ sp [x, y] H2 Q (E σ)
theorem pe_subOS (G : GetO X.K C f) (F : FnOk X.prog X.w X.K X.mg X.base CX1 k f fd ["self", p2] sp) (hr : Room (k + 1) X.A) (bF : Binds X.K fd ["self", p2] []) (hx : ∀ σ, PassesAt CX1 X σ (ES σ)) (ha : PE X a ta) (hb : PE X b tb)
    (hsl : ∀ x i, subscripted b true (.ref x) i = runValue (.builtin "lifetime.subscript" ⟨[.ref x, i], []⟩) := by intro _ _; with_unfolding_all rfl) : PE X (.Subscript a b pos) (tSubOS C sp ES ta tb) := by
  refine ⟨fun pins s σ H Q I h => ?_⟩
  refine Subscript_ (binT ha hb I h fun v u s2 x y H2 I2 rx ry q => ?_)
  obtain ⟨o, dx, fs, rfl, hA, h⟩ := q
  cases rx
  obtain ⟨_, J⟩ := inst_of' I2 hA
  obtain ⟨m, fr⟩ := I2.fr
  refine PySem.W.sub_K fr I2.ok.mod.kin J G.at_ G.fi G.fn ?_ (hsl _ _)
  have hr' : Room k ({ X.A with units := X.A.units + 1 } : Around) := ⟨hr.hd, by have := hr.dp; show X.A.depth + 3 * k + 5 < _; omega, by have := hr.un; show X.A.units + 1 + 16 * k + 200 < cLine; omega⟩
  have z := run_fnS (X := { X with A := { X.A with units := X.A.units + 1 } }) (CX := CX1) (vs := [.ref o, y]) (us := [.ref o, u]) F hr' bF (fun pins H s e s' I' h' => hx σ pins H s e s' I'.out1 h') (I2.in1 _) (.cons rfl (.cons ry .nil)) h
  exact thn z fun u s1 hh => by
    obtain ⟨v, H1, I1, rv, q⟩ := hh
    exact ⟨v, H1, I1.out1, rv, q⟩
def tSubO (C : Addr) (sp : Sp) (E : XK) (ta tb : TE) : TE := tSubOS C sp (fun _ => E) ta tb
theorem pe_subO (G : GetO X.K C f) (F : FnOk X.prog X.w X.K X.mg X.base CX1 k f fd ["self", p2] sp) (hr : Room (k + 1) X.A) (bF : Binds X.K fd ["self", p2] []) (hx : Passes CX1 X E) (ha : PE X a ta) (hb : PE X b tb)
    (hsl : ∀ x i, subscripted b true (.ref x) i = runValue (.builtin "lifetime.subscript" ⟨[.ref x, i], []⟩) := by intro _ _; with_unfolding_all rfl) : PE X (.Subscript a b pos) (tSubO C sp E ta tb) :=
  pe_subOS G F hr bF (fun σ pins H s e s' I h => hx pins σ H s e s' I h) ha hb hsl
theorem ev_subO {σ : L2.St} {H : Hp} {o dx : Addr} {fs : List (Str × V)} {y z : V} (h1 : Evl.Ev ta σ H (.ref o)) (h2 : Evl.Ev tb σ H y) (h3 : H o = some (.ins C dx fs)) (h4 : Evl.SpV sp [.ref o, y] H z) : Evl.Ev (tSubO C sp E ta tb) σ H z := fun H1 e Q q =>
  h1 H1 e _ fun H2 e2 => h2 H2 (e.trans e2) _ fun H3 e3 => ⟨o, dx, fs, rfl, e3 _ _ (e2 _ _ (e _ _ h3)), h4 H3 ((e.trans e2).trans e3) Q (fun H4 e4 => q H4 ((e2.trans e3).trans e4)) E⟩
end
end L2
/-! x not in o by the class's own __contains__ -/
namespace L2
open PySem PySem.Spec PyProof.Rows Er
section
variable {X : Cx} {CX CX1 : CXT} {C f g : Addr} {fd gd : FuncData} {k : Nat} {sp : Sp} {E : XK}
theorem op_niO (hf : PySem.W.findIn X.K (.ref C) "__contains__" = some (some (.ref g))) (hi : PySem.W.isFn X.K (.ref g) = true)
    (F : FnOk X.prog X.w X.K X.mg X.base CX k g fd ["self", "x"] sp) (hr : Room k X.A) (b : Binds X.K fd ["self", "x"] []) (hx : Passes CX X E) : OpR X (compareOp .NotIn) (rInO C true sp E) := by
  intro pins s σ H x y v u Q I rx ry h
  obtain ⟨a, dx, fs, rfl, ha, h⟩ := h
  cases ry
  obtain ⟨_, J⟩ := inst_of' I ha
  obtain ⟨m, fr⟩ := I.fr
  refine PySem.W.notIn_K fr I.ok.mod.kin J hf hi (wpAny_mono (run_fn (vs := [.ref a, x]) (us := [.ref a, v]) (dvs := []) F hr b .nil hx I (.cons rfl (.cons rx .nil)) h) (fun r s' z => ?_) (fun _ _ z => z))
  obtain ⟨v', H1, I1, rv, bb, ev, q⟩ := z
  subst ev
  obtain rfl : r = Value.bool bb := rv
  exact wpAny_pure ⟨.bl (!bb), H1, I1, rfl, q⟩
end
end L2
namespace L2
open PySem PySem.Spec PyProof.Rows
end L2
namespace L2
open PySem PySem.Spec PyProof.Rows
end L2
namespace L2
open PySem PySem.Spec PyProof.Rows
/-- the view d.values() at p -/
def valsO (p d : Addr) : HO := .ext fun h => h.IsValuesView p d
theorem valsO_ok {P : Program} {w : World} {H : Hp} {h : Heap} {p d : Addr} (e : h.get? p = some { cls := .type "dict_values", data := .fields #[.ref d] }) : ObjOk P w H h p (valsO p d) :=
  ⟨⟨_, e, rfl, rfl⟩, ⟨_, e⟩, fun h1 h2 x k => let ⟨o, ho, r⟩ := x; ⟨o, k o ho, r⟩⟩
section
variable {X : Cx}
def rValsK : V → List V → Hp → VK → Prop := fun x xs H Q => ∃ (a : Addr) (kvs : List (Key × V)), x = .ref a ∧ xs = [] ∧ Rd H a (.dK kvs) ∧ ∀ p, H p = none → Q (.ref p) (upd H p (valsO p a))
theorem mt_valsK : MtR X "dict.values" rValsK := by
  intro pins s σ H x xs v us Q I rx rxs h
  obtain ⟨a, kvs, rfl, rfl, ha, q⟩ := h
  cases rx
  cases rxs
  obtain ⟨z, hd, vs, rel, dd⟩ := dk_rd I.hok ha
  refine call_meetsIn F.slot_dict_values dd.typeIs F.entry_dict_values (F.args_dict_values_1 _) (meets_dict_values (mixKind X.prog X.w) a hd) ⟨⟨vs, dd⟩, ?_⟩
  have hf : H s.heap.objs.size = none := I.hok.fresh (Nat.le_refl _)
  exact ⟨.ref s.heap.objs.size, upd H s.heap.objs.size (valsO s.heap.objs.size a), I.laid (t' := s.toks) (fun b u e => Heap.get?_push_of_some _ e) (Nat.le_refl _) (valsO_ok (Heap.get?_push_size _ rfl)), rfl, q _ hf⟩
/-- list(d.values()) -/
theorem call_listVals (hcalm : X.calm = true) : CallR X (.type "list") (fun xs H Q => ∃ (v a : Addr) (kvs : List (Key × V)), xs = [.ref v] ∧ H v = some (valsO v a) ∧ Rd H a (.dK kvs) ∧ ∀ p, H p = none → Q (.ref p) (upd H p (.lst (kvs.map (·.2))))) := by
  intro pins s σ H xs us Q I r q
  obtain ⟨v, a, kvs, ex, hv, hd, q⟩ := q
  subst ex
  obtain ⟨u, eu, rx⟩ := vals1 r
  subst eu
  cases rx
  obtain ⟨z, lo, vs, rel, dd⟩ := dk_rd I.hok hd
  obtain ⟨ep, hat⟩ := dd.dictAt
  have hview : s.heap.IsValuesView v a := (show ObjOk X.prog X.w H s.heap v (valsO v a) from I.hok v _ hv).1
  refine PySem.W.kdl_call (PySem.W.kdl_values (knd := mixKind X.prog X.w) (kvs := vs) (ep := ep)) (I.ok.hd hcalm) ⟨hview, hat⟩ (by rw [← rel.length]; exact z) fun h' tk acc c' hk hD hacc => ?_
  have hl : acc.toList.length = vs.length := by rw [Array.length_toList]; exact hacc.1
  have hacc2 : acc.toList = vs.map (·.2) := PySem.W.kdl_vals_eq acc.toList hl fun j u e => hacc.2 j u (by rw [← Array.getElem?_toList]; exact e)
  have hvals : ∀ {kvs : List (Key × V)} {vs : List (Key × Value)}, KV kvs vs → Vals (kvs.map (·.2)) (vs.map (·.2)) := fun {kvs vs} r => by
    unfold KV at r
    induction r with
    | nil => exact .nil
    | cons h t ih => exact .cons h.2 ih
  refine ⟨.ref s.heap.objs.size, upd H s.heap.objs.size (.lst (kvs.map (·.2))), I.laid (t' := tk) hk (Nat.le_refl _)
    (show ObjOk X.prog X.w _ _ _ (.lst (kvs.map (·.2))) from ⟨by rw [List.length_map]; exact z, acc.toList, c', by rw [hacc2]; exact hvals rel, by rw [Array.toArray_toList]; exact hD⟩), rfl, q _ (I.hok.fresh (Nat.le_refl _))⟩
end
end L2
namespace L2
open PySem PySem.Spec PyProof.Rows
/-- the iterator at it over the keys of d, n of them, i gone -/
def KItO (d it : Addr) (i n ep : Nat) : HO := .ext fun h => h.IsKeyIter it d i n ep
section
variable {X : Cx} {pins : List (Addr × Obj)} {σ : St} {H : Hp} {s : Shared} {d it : Addr} {i n ep : Nat}
theorem kitO_ok {P : Program} {w : World} {H : Hp} {h : Heap} (e : h.IsKeyIter it d i n ep) : ObjOk P w H h it (KItO d it i n ep) := ⟨e, (let ⟨o, ho, _⟩ := e; ⟨o, ho⟩), fun h1 h2 q k => let ⟨o, ho, r⟩ := q; ⟨o, k o ho, r⟩⟩
theorem kitO_get (I : Inv X pins σ H s) (e : H it = some (KItO d it i n ep)) : s.heap.IsKeyIter it d i n ep := (I.hok it _ e).1
/-- iter(d) of a dict that stays as it is -/
def rIterD : List V → Hp → VK → Prop := fun xs H Q => ∃ (d : Addr) (o : Obj) (kvs : List (Key × V)), xs = [.ref d] ∧ H d = some (.frz o (.dK kvs)) ∧ ∀ it es ep, o.data = .dict es ep → H it = none → Q (.ref it) (upd H it (KItO d it 0 kvs.length ep))
theorem call_iterD : CallR X (.builtin "iter") rIterD := by
  intro pins s σ H xs us Q I r h
  obtain ⟨d, o, kvs, rfl, hd, q⟩ := h
  obtain rfl := Vals.ref1 r
  obtain ⟨hs, hgd, hx, es, ep, vs, hdt, hsz, kv, hm⟩ := I.frzK hd
  have hl : kvs.length = vs.length := Paired.length kv
  refine Calls.call_function_entry (by decide +kernel) (by decide +kernel) PySem.W.kdk_entry_iter (PySem.W.kdk_args_iter _) ?_
  unfold Builtin.«iter»
  refine wpAny_bind (m := someArgs "iter" 1 2 _) (wpAny_of_eq (a := [Value.ref d]) (by first | rfl | kernel_rfl!) ?_)
  show wpAny _ _ (pyIter (.ref d) >>= _) _ _ _
  refine wpAny_bind (wpAny_pyIter_dict hs hm ?_)
  exact wpAny_pure ⟨_, rfl, .ref s.heap.objs.size, _, I.laid (t' := s.toks) (fun b u e => Heap.get?_push_of_some _ e) (Nat.le_refl _) (kitO_ok ⟨_, Heap.get?_push_size _ rfl, rfl, by rw [hl]; rfl⟩), rfl, q _ es ep hdt (I.hok.fresh (Nat.le_refl _))⟩
end
section
variable {prog : Program} {w : World} {K : Type} [DecidableEq K] {knd : KeyKind prog w K} {A : Around} {E : Value → Shared → Prop} {s : Shared}
/-- the iterator over a dict has no more: its own object is still there -/
theorem key_stop {it d : Addr} {i ep : Nat} {kvs : List (K × Value)} {Q : Option Value → Shared → Prop} (hh : A.handled = none) (hit : s.heap.IsKeyIter it d i kvs.length ep)
    (hm : s.heap.DictAt knd d kvs ep) (hx : kvs[i]? = none)
    (hQ : ∀ h', Heap.ExtBut it s.heap h' → (∃ o, h'.get? it = some o) → Q none { s with heap := h' }) : wpAny (model prog w) A (pyNext (.ref it)) Q E s := by
  obtain ⟨o, ho, hc, hd⟩ := id hit
  obtain ⟨od, es, hod, hcd, hdd, hk, hp, hn⟩ := id hm
  unfold pyNext
  refine wpAny_bind (wpAny_attempt (wpAny_callSpecial?_slot (name := Str.ofString "__next__") hit.typeIs F.slot_dict_keyiterator_next
    (wpAny_call_entry F.slot_dict_keyiterator_next hit.typeIs F.entry_dict_keyiterator_next ?_ (F.args_dict_keyiterator_next_1 _))))
  refine wpAny_bind (wpAny_pure ?_)
  refine wpAny_bind ?_
  refine wpAny_bind ?_
  first | refine wpAny_bind (wpAny_typeNameOfWhole_keyiter hit.typeIs (wpAny_pure ?_)) | refine wpAny_bind (wpAny_typeNameOf_keyiter hit.typeIs (wpAny_pure ?_))
  refine wpAny_bind (wpAny_fieldsOf ho hd ?_)
  have hown : Builtin.Dict_items.ownsTuple "dict_keyiterator" = false := by decide
  simp only [hown, Bool.false_eq_true, if_false]
  show wpAny _ _ (if (Value.ref d == Value.none) = true then _ else _) _ _ s
  rw [if_neg (show ¬ ((Value.ref d == Value.none) = true) from Bool.false_ne_true)]
  refine wpAny_bind (wpAny_pure ?_)
  refine wpAny_bind (wpAny_dictEntries hod hdd ?_)
  have hsz : es.size = kvs.length := by rw [← hp.length]; simp
  rw [if_neg (by rw [hsz]; simp)]
  refine wpAny_bind (wpAny_pure ?_)
  refine wpAny_bind (wpAny_dictEpoch hod hdd ?_)
  rw [if_neg (by simp)]
  refine wpAny_pure ?_
  have hge : es.size ≤ i := by rw [hsz]; simpa using hx
  simp only [show ¬ ((i : Int) < 0) from by omega, if_false, Int.toNat_natCast, Array.getElem?_eq_none hge]
  refine wpAny_bind ?_
  first | refine wpAny_bind (wpAny_typeNameOfWhole_keyiter hit.typeIs (wpAny_pure ?_)) | refine wpAny_bind (wpAny_typeNameOf_keyiter hit.typeIs (wpAny_pure ?_))
  show wpAny _ _ (setField (.ref it) 0 .none >>= _) _ _ s
  refine wpAny_bind (wpAny_setField ho hd (by simp) ?_)
  show wpAny _ _ (newExc (.type "StopIteration") [] >>= _) _ _ _
  refine wpAny_bind ?_
  simp only [newExc, newTuple]
  refine wpAny_bind (wpAny_newObj_type ?_ (by size_fits))
  refine wpAny_bind (m := firstArgMember _ _) (wpAny_of_eq (a := Value.none) (by first | rfl | (simp only [firstArgMember]; rfl)) ?_)
  refine wpAny_newObj_type ?_ (by size_fits)
  simp only [raiseNew]
  refine wpAny_bind (wpAny_handled ?_)
  rw [show A.in1.handled = none from hh]
  refine wpAny_bind (wpAny_pure (wpAny_throw ?_))
  refine wpAny_bind (wpAny_isInstance (T := "StopIteration") (b := true) ⟨_, Heap.get?_push_size _ rfl, rfl⟩ isSubtype_stop ?_)
  exact wpAny_pure (hQ _ (((Heap.SameBut.update ..).extBut.push _).push _) ⟨_, Heap.get?_push_of_some _ (Heap.get?_push_of_some _ (Heap.get?_update_self _ ho (Obj.isFreed_of_fields (Obj.data_mapFields hd _))))⟩)
end
section
variable {X : Cx} {pins : List (Addr × Obj)} {σ : St} {H : Hp} {s : Shared} {A1 : Around} {q it d : Addr} {o : Obj} {ep : Nat} {es : Array DictEntry}
theorem rel_key {k : Key} {v : Value} (h : keyIs k v = true) : RelV (kV k) v := by
  have r := keys_at (us := [v]) (vs := [(k, Value.none)]) rfl (fun j u e => by
    cases j with
    | zero => cases e; exact ⟨k, _, rfl, h⟩
    | succ j => cases e)
  obtain ⟨u, e, ru⟩ := r.one
  cases e
  exact ru
/-- the loop of list.extend over the dict's iterator -/
theorem kl_loop {kvs : List (Key × V)} {Rs : Result → Shared → Prop} (calm : A1.in1.handled = none) (hne : q ≠ it) (hdq : d ≠ q) (hdi : d ≠ it) (hz : kvs.length < sizeLine) (hd : H d = some (.frz o (.dK kvs))) (hdat : o.data = .dict es ep)
    (hdone : ∀ s, Inv X pins σ (upd (upd H it TItE) q (.lst (kvs.map fun kv => kV kv.1))) s → Rs (.ok (.ret .none)) s) :
    ∀ (n i : Nat) (s : Shared), n + i = kvs.length → Inv X pins σ (upd (upd H it (KItO d it i kvs.length ep)) q (.lst ((kvs.map fun kv => kV kv.1).take i))) s → codeAny (model X.prog X.w) A1 (.builtin "list.extend.loop" ⟨[.ref q, .ref it, .none], []⟩) Rs s := by
  intro n
  induction n with
  | zero =>
    intro i s hn I
    refine codeAny_builtin PySem.F.entry_extend_loop ?_
    rw [Around.under_plainId PySem.F.plain_extend_loop _]
    have hitH : (upd (upd H it (KItO d it i kvs.length ep)) q (.lst ((kvs.map fun kv => kV kv.1).take i))) it = some (KItO d it i kvs.length ep) := by rw [upd_ne hne.symm, upd_same]
    have hdH : (upd (upd H it (KItO d it i kvs.length ep)) q (.lst ((kvs.map fun kv => kV kv.1).take i))) d = some (.frz o (.dK kvs)) := by rw [upd_ne hdq, upd_ne hdi]; exact hd
    obtain ⟨_, _, _, es', ep', vs, hdt, hsz, kv, hm⟩ := I.frzK hdH
    rw [hdat] at hdt
    cases hdt
    have hl : kvs.length = vs.length := Paired.length kv
    have mu : Mut ((upd (upd H it (KItO d it i kvs.length ep)) q (.lst ((kvs.map fun kv => kV kv.1).take i))) it) := by rw [hitH]; exact True.intro
    refine wpAny_bind (key_stop calm (by have g := kitO_get I hitH; rw [hl] at g; exact g) hm (by rw [List.getElem?_eq_none_iff]; omega) fun h' eb ex => ?_)
    have I2 := I.write (x := it) (e := it) (t' := s.toks) mu (.inl rfl) (fun b o nb z => eb b o nb z) ex (titE_ok ex)
    rw [upd_two' hne, show (kvs.map fun kv => kV kv.1).take i = (kvs.map fun kv => kV kv.1) from List.take_of_length_le (by rw [List.length_map]; omega)] at I2
    exact wpAny_pure (hdone _ I2)
  | succ n ih =>
    intro i s hn I
    refine codeAny_builtin PySem.F.entry_extend_loop ?_
    rw [Around.under_plainId PySem.F.plain_extend_loop _]
    have hitH : (upd (upd H it (KItO d it i kvs.length ep)) q (.lst ((kvs.map fun kv => kV kv.1).take i))) it = some (KItO d it i kvs.length ep) := by rw [upd_ne hne.symm, upd_same]
    have hdH : (upd (upd H it (KItO d it i kvs.length ep)) q (.lst ((kvs.map fun kv => kV kv.1).take i))) d = some (.frz o (.dK kvs)) := by rw [upd_ne hdq, upd_ne hdi]; exact hd
    obtain ⟨_, _, _, es', ep', vs, hdt, hsz, kv, hm⟩ := I.frzK hdH
    rw [hdat] at hdt
    cases hdt
    have hl : kvs.length = vs.length := Paired.length kv
    have lt : i < vs.length := by omega
    obtain ⟨⟨k, x⟩, hv⟩ : ∃ v, vs[i]? = some v := ⟨vs[i], List.getElem?_eq_getElem lt⟩
    have hk : (kvs.map fun kv => kV kv.1)[i]? = some (kV k) := by
      have e := congrArg (fun l => (l[i]?).map kV) kv.keys
      simp only [List.getElem?_map, hv, Option.map_map, Option.map_some] at e
      rw [List.getElem?_map]
      exact e
    have mu : Mut ((upd (upd H it (KItO d it i kvs.length ep)) q (.lst ((kvs.map fun kv => kV kv.1).take i))) it) := by rw [hitH]; exact True.intro
    refine wpAny_bind (wpAny_pyNext_dict_item (by have g := kitO_get I hitH; rw [hl] at g; exact g) hm hv fun wv h' hkey hit' sb => ?_)
    rw [← hl] at hit'
    have I2 := I.write (x := it) (e := it) (t' := s.toks) mu (.inl rfl) (fun b o nb z => (sb.2 b nb).trans z) (let ⟨o, ho, _⟩ := hit'; ⟨o, ho⟩) (kitO_ok hit')
    have hq2 : (upd (upd (upd H it (KItO d it i kvs.length ep)) q (.lst ((kvs.map fun kv => kV kv.1).take i))) it (KItO d it (i + 1) kvs.length ep)) q = some (.lst ((kvs.map fun kv => kV kv.1).take i)) := by rw [upd_ne hne, upd_same]
    obtain ⟨z, its2, kk, r2, hl2, e⟩ := I2.lstM hq2
    have len2 := r2.length
    rw [List.length_take, List.length_map] at len2
    show wpAny _ A1.in1 (updateSeq q (·.push wv) >>= _) _ _ _
    refine wpAny_bind (wpAny_updateSeq e rfl (wpAny_pure ⟨plainId_quiet PySem.F.plain_extend_loop _, ?_⟩) (by rw [List.size_toArray]; omega) (by show (its2.toArray.push wv).size ≤ sizeLine + 1; rw [Array.size_push, List.size_toArray]; omega))
    refine ih (i + 1) _ (by omega) ?_
    have I3 := I2.lset (f := (·.push wv)) (its' := its2 ++ [wv]) (t' := s.toks) hq2 e (by simp) (r2.append (.cons (rel_key hkey) .nil)) (by rw [List.length_append, List.length_singleton, List.length_take, List.length_map]; omega)
    rw [upd_two hne] at I3
    have e5 : (kvs.map fun kv => kV kv.1).take i ++ [kV k] = (kvs.map fun kv => kV kv.1).take (i + 1) := by rw [List.take_add_one, hk]; rfl
    rw [e5] at I3
    exact I3
end
/-- list(o), o walked by a dict's iterator that __iter__ gives, of the length that __len__ gives; the dict is locked -/
def rListOd (C : Addr) (spI spL : Sp) : List V → Hp → VK → Prop := fun xs H Q => ∃ a dx fs, xs = [.ref a] ∧ H a = some (.ins C dx fs) ∧
  ∀ q, H q = none → spI [.ref a] (upd H q (.lst [])) (fun v H1 => ∃ it d o es ep kvs, v = .ref it ∧ H1 it = some (KItO d it 0 kvs.length ep) ∧ H1 d = some (.frz o (.dK kvs)) ∧ o.data = .dict es ep ∧ H1 a = some (.ins C dx fs) ∧ H1 q = some (.lst []) ∧ kvs.length < 1000 ∧
    spL [.ref a] H1 (fun v2 H2 => (∃ n : Nat, v2 = .int n ∧ n < 1000) ∧ H2 it = some (KItO d it 0 kvs.length ep) ∧ H2 d = some (.frz o (.dK kvs)) ∧ H2 q = some (.lst []) ∧ Q (.ref q) (upd (upd H2 it TItE) q (.lst (kvs.map fun kv => kV kv.1)))) E0) E0
section
variable {X : Cx} {C fi fl : Addr} {fdI fdL : FuncData} {spI spL : Sp} {n : Nat}
theorem call_listOd (hc : LtC X.K C fi fl) (calm : X.calm = true) (FI : FnOk X.prog X.w X.K X.mg X.base CX0 n fi fdI ["self"] spI) (bI : Binds X.K fdI ["self"] []) (FL : FnOk X.prog X.w X.K X.mg X.base CX0 n fl fdL ["self"] spL) (bL : Binds X.K fdL ["self"] [])
    (hr : Room (n + 3) X.A) : CallR X (.type "list") (rListOd C spI spL) := by
  intro pins s σ H xs us Q I rv h
  obtain ⟨a, dx, fs, rfl, ha, hq⟩ := h
  obtain ⟨u, rfl, ru⟩ := rv.one
  cases ru
  have sb3 : Sub X (n + 1) X.A.in1.in1 := Sub.in1 (Sub.in1 (⟨hr, rfl⟩ : Sub X (n + 3) X.A))
  have sb4 : Sub X n X.A.in1.in1.in1 := Sub.in1 sb3
  refine callType_codes (Q₁ := fun obj s₁ => obj = .ref s.heap.objs.size ∧ s₁ = { s with heap := s.heap.push { cls := .type "list", data := .seq #[] } }) PySem.F.called_list (PySem.F.typeCall_list_1 _) PySem.F.entry_list_init
    (code_list_new _ ⟨rfl, rfl⟩) fun obj s₁ h₁ => ?_
  obtain ⟨rfl, rfl⟩ := h₁
  generalize hqa : s.heap.objs.size = q
  have got : (s.heap.push { cls := .type "list", data := .seq #[] }).get? q = some { cls := .type "list", data := .seq #[] } := by rw [← hqa]; exact Heap.get?_push_size _ rfl
  refine ⟨⟨_, got, rfl⟩, PySem.F.args_list_init_2 _ _, ?_⟩
  have young : H q = none := I.hok.fresh (Nat.le_of_eq hqa)
  have I1 : Inv X pins σ (upd H q (.lst [])) { s with heap := s.heap.push { cls := .type "list", data := .seq #[] } } := by rw [← hqa]; exact I.lnew (its := []) (t' := s.toks) .nil (Nat.zero_le _)
  have go := hq q young
  show wpAny _ _ (do let old ← Builtin.List.listItems (.ref q); Builtin.List.listUpdate (.ref q) (fun _ => #[]); letGo old.toList.reverse; Builtin.List.listExtendWith (.ref q) (.ref a) .none) _ _ _
  refine wpAny_bind ?_
  unfold Builtin.List.listItems
  refine wpAny_bind (wpAny_seqItems got rfl (wpAny_pure ?_))
  show wpAny _ _ (updateSeq q (fun _ => #[]) >>= fun _ => letGo (#[] : Array Value).toList.reverse >>= fun _ => Builtin.List.listExtendWith (.ref q) (.ref a) .none) _ _ _
  refine wpAny_bind (wpAny_updateSeq got rfl ?_)
  have I2 := I1.lset (f := fun _ => #[]) (its := []) (its' := []) (ys := []) (t' := s.toks) upd_same got rfl .nil (Nat.zero_le _)
  rw [upd_upd] at I2
  refine wpAny_bind (wpAny_letGo ?_)
  have ha2 : upd H q (.lst []) a = some (.ins C dx fs) := by rw [upd_ne (ne_of_none ha young)]; exact ha
  have hne : q ≠ a := fun e => by rw [e] at young; rw [young] at ha; cases ha
  obtain ⟨_, J⟩ := inst_of' I2 ha2
  obtain ⟨m0, hF⟩ := I2.fr
  unfold Builtin.List.listExtendWith
  refine wpAny_bind (J.type.here ?_)
  have h1 : Builtin.List.listSameRef (.ref q) (.ref a) = false := by simp [Builtin.List.listSameRef, hne]
  have h2 : (Value.ref C == Value.type "list") = false := rfl
  have h3 : (Value.ref C == Value.type "tuple") = false := rfl
  simp only [h1, h2, h3, Bool.or_false, Bool.false_eq_true, if_false]
  refine wpAny_bind (PySem.W.owit_iter hF I2.ok.mod.kin J hc.it hc.itF ?_)
  refine run0 (sb3.mono (Nat.le_succ _)) FI bI I2 go ?_
  rintro v H1 u s1 J1 rv ⟨it, t, o, es, ep, kvs, rfl, hit, htu, hdat, ha3, hq3, hz, go2⟩
  cases rv
  have hT : s1.TypeIs (.ref it) "dict_keyiterator" := (kitO_get J1 hit).typeIs
  unfold PySem.W.OwitIt
  refine wpAny_specialOf hT PySem.F.slot_dict_keyiterator_next.lookup ?_
  obtain ⟨_, J3⟩ := inst_of' J1 ha3
  refine wpAny_bind (wpAny_holding ?_)
  unfold Builtin.List.listLengthHint
  refine wpAny_bind (wpAny_bind (J3.type.here ((PySem.W.looks_findIn J1.kIn hc.ln).here ?_)))
  refine PySem.W.KFB.if_not rfl ?_
  dsimp only [Option.isSome]
  rw [if_pos rfl]
  refine wpAny_bind (wpAny_rule ?_)
  refine wpAny_bind (wpAny_attempt (len_ownK J1.kIn J3 hc.ln hc.lnF ?_))
  refine run0 sb4 FL bL J1 go2 ?_
  rintro v2 H2 u2 s2 J2 rv2 ⟨⟨k, rfl, hk⟩, hit2, htu2, hq2, fin⟩
  obtain ⟨tk, rfl⟩ := rv2
  refine ⟨k, tk, rfl, by omega, by omega, ?_⟩
  refine wpAny_bind (wpAny_pure (a := some (k : Int)) ?_)
  have small : Builtin.List.listTooLong (k : Int).toNat = false := by
    unfold Builtin.List.listTooLong
    have e := sizeLine_eq
    exact decide_eq_false (by rw [Int.toNat_natCast]; omega)
  dsimp only
  rw [small, if_neg Bool.false_ne_true]
  refine wpAny_pure ?_
  have J4 : Inv X pins σ H2 { heap := s2.heap, gens := s2.gens, drawn := s2.drawn, toks := s2.toks + 1, os := s2.os } := J2.tok _
  have hnd : X.A.handled = none := J4.ok.hd calm
  have nqi : q ≠ it := fun e => by rw [e, hit2] at hq2; cases hq2
  have ntq : t ≠ q := fun e => by rw [e, hq2] at htu2; cases htu2
  have nti : t ≠ it := fun e => by rw [e, hit2] at htu2; cases htu2
  have zl : kvs.length < sizeLine := by have e := sizeLine_eq; omega
  have start : upd (upd H2 it (KItO t it 0 kvs.length ep)) q (.lst ((kvs.map fun kv => kV kv.1).take 0)) = H2 := by
    funext c
    by_cases hc2 : c = q
    · rw [hc2, upd_same, hq2]; rfl
    · rw [upd_ne hc2]
      by_cases hc3 : c = it
      · rw [hc3, upd_same, hit2]
      · rw [upd_ne hc3]
  have run : ∀ s3, Inv X pins σ H2 s3 → codeAny (model X.prog X.w) X.A.in1 (.builtin "list.extend.loop" ⟨[.ref q, .ref it, .none], []⟩) (wants (fun r s₂ => r = .none ∧ EP X pins σ Q (.ref q) s₂) X.xe) s3 := fun s3 J5 =>
    kl_loop (A1 := X.A.in1) (Rs := wants (fun r s₂ => r = .none ∧ EP X pins σ Q (.ref q) s₂) X.xe) (H := H2) (kvs := kvs) hnd nqi ntq nti zl htu2 hdat (fun s4 J6 => ⟨rfl, .ref q, _, J6, rfl, fin⟩) kvs.length 0 s3 (by omega) (by rw [start]; exact J5)
  obtain ⟨z, its, kk, r3, hl3, e3⟩ := J4.lstM hq2
  cases r3
  refine wpAny_ite_split (fun _ => ?_) (fun _ => wpAny_pure ⟨plainId_quiet PySem.F.plain_extend_loop _, run _ J4⟩)
  refine wpAny_bind (wpAny_rule ?_)
  refine wpAny_bind ?_
  show wpAny _ _ (updateSeq q (·.push .none) >>= fun _ => updateSeq q (·.pop)) _ _ _
  refine wpAny_bind (wpAny_updateSeq e3 rfl ?_)
  have J7 := J4.lset (f := (·.push Value.none)) (its' := [Value.none]) (ys := [.non]) (t' := s2.toks + 1) hq2 e3 (by simp) (.cons rfl .nil) (by rw [List.length_singleton, sizeLine_eq]; decide)
  obtain ⟨z4, its4, k4, r4, hl4, e4⟩ := J7.lstM upd_same
  obtain ⟨u4, rfl, ru4⟩ := r4.one
  refine wpAny_updateSeq e4 rfl ?_ (by show 1 ≤ sizeLine; rw [sizeLine_eq]; decide) (by show 0 ≤ sizeLine + 1; exact Nat.zero_le _)
  refine wpAny_pure ⟨plainId_quiet PySem.F.plain_extend_loop _, run _ ?_⟩
  have J8 := J7.lset (f := (·.pop)) (its := [u4]) (its' := []) (ys := []) (t' := s2.toks + 1) upd_same e4 (by rfl) .nil (Nat.zero_le _)
  rw [upd_upd] at J8
  have same : upd H2 q (.lst []) = H2 := by
    funext c
    by_cases hc2 : c = q
    · rw [hc2, upd_same, hq2]
    · rw [upd_ne hc2]
  rw [same] at J8
  exact J8
end
end L2
/-! for and comprehensions over an own object whose __iter__ gives iter(dict) (the dict locked) or iter(tuple), wherever the object stands -/
namespace L2
open PySem PySem.Spec PyProof.Rows
/-- without what stands at one place -/
def offI (H : Hp) (a : Addr) : Hp := fun c => if c = a then none else H c
theorem offI_ne {H : Hp} {a c : Addr} (n : c ≠ a) : offI H a c = H c := if_neg n
theorem offI_new {H : Hp} {a : Addr} {o : HO} (n : H a = none) : offI (upd H a o) a = H := by
  funext c
  unfold offI
  by_cases e : c = a
  · rw [if_pos e, e, n]
  · rw [if_neg e, upd_ne e]
def rIterDn (n : Nat) : List V → Hp → VK → Prop := fun xs H Q => ∃ (d : Addr) (o : Obj) (kvs : List (Key × V)), xs = [.ref d] ∧ H d = some (.frz o (.dK kvs)) ∧ ∀ it es ep, o.data = .dict es ep → H it = none → n ≤ it → Q (.ref it) (upd H it (KItO d it 0 kvs.length ep))
section
variable {X : Cx} {pins : List (Addr × Obj)} {σ : St} {H : Hp} {s : Shared}
theorem call_iterDn : CallR X (.builtin "iter") (rIterDn X.s_0.heap.objs.size) := by
  intro pins s σ H xs us Q I r h
  obtain ⟨d, o, kvs, rfl, hd, q⟩ := h
  obtain rfl := Vals.ref1 r
  obtain ⟨hs, hgd, hx, es, ep, vs, hdt, hsz, kv, hm⟩ := I.frzK hd
  have hl : kvs.length = vs.length := Paired.length kv
  refine Calls.call_function_entry (by decide +kernel) (by decide +kernel) PySem.W.kdk_entry_iter (PySem.W.kdk_args_iter _) ?_
  unfold Builtin.«iter»
  refine wpAny_bind (m := someArgs "iter" 1 2 _) (wpAny_of_eq (a := [Value.ref d]) (by first | rfl | kernel_rfl!) ?_)
  show wpAny _ _ (pyIter (.ref d) >>= _) _ _ _
  refine wpAny_bind (wpAny_pyIter_dict hs hm ?_)
  exact wpAny_pure ⟨_, rfl, .ref s.heap.objs.size, _, I.laid (t' := s.toks) (fun b u e => Heap.get?_push_of_some _ e) (Nat.le_refl _) (kitO_ok ⟨_, Heap.get?_push_size _ rfl, rfl, by rw [hl]; rfl⟩), rfl, q _ es ep hdt (I.hok.fresh (Nat.le_refl _)) I.sz⟩
end
/-- a def whose promise may speak of the heap's size at the call -/
structure FnS (P : Program) (w : World) (K : PySem.W.Frag) (mg : Str → Option Value) (base : Heap) (CX : CXT) (k : Nat) (f : Addr) (fd : FuncData) (ps : List Str) (sp : Nat → Sp) : Prop where
  len : ∀ n vs H Q E, sp n vs H Q E → vs.length = ps.length
  run : ∀ (A : Around) (outer : List Env) (s : Shared) (H : Hp) (args : Args) (us : List Value) (vs : List V) (Q : VK) (E : XK), Room k A → Env0 P w K mg base A outer s H → BindsTo s fd args (ps.zip us) → Vals vs us → sp s.heap.objs.size vs H Q E →
    codeAny (model P w) A (.call (.ref f) args) (CR CX outer P w H s Q E) s
section
variable {P : Program} {w : World} {K : PySem.W.Frag} {mg : Str → Option Value} {base : Heap}
theorem FnS.of {x qual : Str} {st : Stmt} {f : Addr} {fd : FuncData} {N ps : List Str} {k : Nat} {sp : Nat → Sp} (F : Fun K x qual st f fd) (S : FnScope N ps (defScope st)) (len : ∀ n vs H Q E, sp n vs H Q E → vs.length = ps.length)
    (hbody : ∀ (cdv : Value) (A : Around) (outer : List Env) (s : Shared) (H : Hp) (vs : List V) (Q : VK) (E : XK), Room k (A.deeper (envOfC qual (defScope st) s.heap.objs.size f cdv)) → sp s.heap.objs.size vs H Q E →
      ∃ t, PSs (cxOf CX0 P w K mg base N qual (defScope st) f cdv A outer s H E).nox (defBody st) t ∧ t { nx := fun _ H' => Q .non H', rt := Q } (start N vs) H) : FnS P w K mg base CX0 (k + 1) f fd ps sp := by
  obtain ⟨oc, od, kV, doc, pm, an, cdv, ct, osl, rfl, lk, hcd⟩ := F.ex
  refine ⟨len, fun A outer s H args us vs Q E hr e0 hb r hsp => ?_⟩
  have hl := len _ _ _ _ _ hsp
  have KX : K.In s.heap := e0.mod.kin.keeps fun b o e => (e0.bs b o e).1
  have par : ∀ y ∈ ps.zip us, (defScope st).names.lookup y.1 = some .local ∨ ((defScope st).names.lookup y.1 = some .cell ∧ ((cellsFrom (s.heap.objs.size + 1) (defScope st).names []).lookup y.1).isSome = true) := fun y hy =>
    (S.par y.1 (List.of_mem_zip (a := y.1) (b := y.2) hy).1).elim .inl fun q => .inr ⟨q, PySem.W.cellsFrom_some _ _ _ (.inl q)⟩
  obtain ⟨t, ht, hq⟩ := hbody cdv A outer s H vs Q E (hr.deeper _) hsp
  refine codeAny_call_function hr.depth (KX _ _ lk) rfl S.co S.gen rfl (PySem.W.codeRec_of KX hcd) (hb _ _ _ _ (wpAny_newFunctionEnv_cells S.kind par fun env he s1 x => ?_))
  subst he
  refine ⟨(e0.mod.nolimit.keeps fun b o e => (e0.bs b o e).1 : s.heap.NoLimit).keeps x.toInCall.keep, codeAny_func (wpAny_mono (ht.nox.run [] s1 (start N vs) H _ (inv_start S hr.hd e0 hl r x) hq) (fun fl s' hs => ?_) fun e s' hs => hs)⟩
  cases fl with
  | ret u => exact let ⟨v, σ', H', J, rv, q⟩ := hs; ⟨v, H', J.os, J.bare, J.base, J.hok, rv, q⟩
  | next => exact let ⟨σ', H', J, q⟩ := hs; ⟨V.non, H', J.os, J.bare, J.base, J.hok, rfl, q⟩
  | brk => exact let ⟨_, _, _, q⟩ := hs; False.elim q
  | cont => exact let ⟨_, _, _, q⟩ := hs; False.elim q
end
/-- the object walked, of the class C; its dict locked -/
def iOwnK (C : Addr) (spI : Nat → Sp) (td : TE) : TI := fun σ H R => td σ H fun x H1 => ∃ a dx fs d o kvs, x = .ref a ∧ H1 a = some (.ins C dx fs) ∧ H1 d = some (.frz o (.dK kvs)) ∧
  ∀ n, spI n [.ref a] H1 (fun v H2 => ∃ it es ep, v = .ref it ∧ o.data = .dict es ep ∧ H1 it = none ∧ n ≤ it ∧ H2 it = some (KItO d it 0 kvs.length ep) ∧ R (Itk d o kvs) (offI H2 it)) E0
section
variable {X : Cx} {C fi : Addr} {fdI : FuncData} {spI : Nat → Sp} {n : Nat} {tg e : Expr} {td : TE}
theorem pi_ownK (he : PE X e td) (hi : PySem.W.findIn X.K (.ref C) "__iter__" = some (some (.ref fi))) (hiF : PySem.W.isFn X.K (.ref fi) = true) (FI : FnS X.prog X.w X.K X.mg X.base CX0 n fi fdI ["self"] spI) (bI : Binds X.K fdI ["self"] []) (hr : Room n X.A) : PI X tg e (iOwnK C spI td) := by
  refine ⟨fun pins s σ H R I h => ?_⟩
  refine thn (he.run pins s σ H _ I h) fun u s1 ⟨x, H1, I1, rx, a, dx, fs, d, o, kvs, ex, ha, hd, go⟩ => ?_
  subst ex
  obtain rfl : u = Value.ref a := rx
  obtain ⟨_, J⟩ := inst_of' I1 ha
  obtain ⟨m0, hF⟩ := I1.fr
  refine PySem.W.owit_iter hF I1.ok.mod.kin J hi hiF ?_
  have go := go s1.heap.objs.size
  have hl := FI.len _ _ _ _ _ go
  have r2 : Vals [V.ref a] [Value.ref a] := .cons rfl .nil
  have bb := bI s1 [.ref a] I1.kIn (by simpa using hl)
  refine wpAny_call (codeAny_mono (FI.run X.A X.stack s1 H1 ⟨[.ref a], []⟩ [.ref a] [.ref a] _ E0 hr I1.env0 (by simpa using bb) r2 go) fun r s' hq => ?_)
  cases r with
  | error e => exact False.elim hq
  | ok fl =>
    cases fl with
    | next => exact False.elim hq
    | brk => exact False.elim hq
    | cont => exact False.elim hq
    | ret v =>
      have hq2 := hq
      obtain ⟨w, H2, os, bare, un, hok, rv, it, es, ep, rfl, hdat, nit, low, hit, q⟩ := hq
      obtain rfl : v = Value.ref it := rv
      have kit : s'.heap.IsKeyIter it d 0 kvs.length ep := (hok it _ hit).1
      have hT : s'.TypeIs (.ref it) "dict_keyiterator" := kit.typeIs
      unfold PySem.W.OwitIt
      refine wpAny_specialOf hT PySem.F.slot_dict_keyiterator_next.lookup ?_
      have ne_ : ∀ b u, H1 b = some u → b ≠ it := fun b u z e => by rw [e, nit] at z; cases z
      have un1 : Un (frs X.stack) [] H1 (offI H2 it) s1.heap s'.heap := ⟨un.keep, un.slot, fun b ob g n h => by
        have z := un.free b ob g n h
        unfold offI
        by_cases e : b = it
        · rw [if_pos e]
        · rw [if_neg e]; exact z, un.there, fun b xs z => by rw [offI_ne (ne_ b _ z)]; exact un.tups b xs z, fun b o' u z => by rw [offI_ne (ne_ b _ z)]; exact un.frzs b o' u z, fun b ps z => by rw [offI_ne (ne_ b _ z)]; exact un.tbls b ps z⟩
      have hok1 : HOk X.prog X.w (offI H2 it) s'.heap := fun b u z => by
        have nb : b ≠ it := fun e => by rw [e] at z; unfold offI at z; rw [if_pos rfl] at z; cases z
        rw [offI_ne nb] at z
        refine (hok b u z).stay (fun _ _ _ g => g) (fun c g => ?_) (fun c xs g => ?_)
        · rw [offI_ne fun e => ?_]
          · exact g
          · rw [e, hit] at g; cases g
        · rw [offI_ne fun e => ?_]
          · exact g
          · rw [e, hit] at g; cases g
      have J1 : Inv X pins σ (offI H2 it) s' := I1.call' os un1 hok1 bare (fun b z => absurd z (by simp))
      have none1 : s1.heap.get? it = none := by
        cases g : s1.heap.get? it with
        | none => rfl
        | some ob =>
          have z := un.free it ob g nit (by simp)
          rw [hit] at z
          cases z
      have size : X.s_0.heap.objs.size ≤ it := Nat.le_trans I1.sz low
      refine ⟨it, [it], _, _, offI H2 it, rfl, J1, turn_keys it hdat, kit, fun b hb => ?_, q⟩
      have hb : b = it := by simpa using hb
      rw [hb]
      refine ⟨if_pos rfl, ?_, ?_, .inr size, fun x c e z => ?_, fun p hp z => ?_⟩
      · intro z
        obtain ⟨m, ⟨oL, _, _, hL, _⟩, _⟩ := I1.loc
        rw [z, hL] at none1
        cases none1
      · intro hb2
        obtain ⟨_, ob, ho, _⟩ := I1.ok.funs.mem hb2
        exact absurd (Nat.lt_of_lt_of_le (Heap.lt_size ho) size) (Nat.lt_irrefl _)
      · obtain ⟨v, ob, ho, _⟩ := I1.cell x c e
        rw [z, none1] at ho
        cases ho
      · have z2 := (I1.pin p hp).1
        rw [z, none1] at z2
        cases z2
end
end L2
namespace L2
open PySem PySem.Spec PyProof.Rows
/-- the tuple at a, counted from c, each item in a new pair -/
def ItS (K : PySem.W.Frag) (a : Addr) (c : Int) : It :=
  ⟨fun i H => ∃ (xs : List V) (x : V), SqT K H a xs ∧ xs[i]? = some x, fun i H v H' => ∃ T x, v = .ref T ∧ H T = none ∧ H' = upd H T (.tup [.int (c + (i : Nat)), x]) ∧ ∀ xs, SqT K H a xs → xs[i]? = some x, fun i H => ∃ xs : List V, SqT K H a xs ∧ xs.length = i⟩
theorem turn_enumS {P : Program} {w : World} {K : PySem.W.Frag} {elts : List Expr} {kk : Nat} {tpos : Pos} (a e it : Addr) (c : Int) :
    Turn P w K (.Tuple elts kk tpos) (ItS K a c) [e, it] e (fun i h => (∃ old, IsEnum h e it (c + ((i : Nat) : Int)) old) ∧ h.IsTupleIter it a i ∧ e ≠ it ∧ a ≠ it ∧ a ≠ e) where
  mem := by simp
  obj := fun i h st b hb => by
    obtain ⟨⟨old, he⟩, ⟨o, ho, hc, hd⟩, _⟩ := st
    have e' : b = e ∨ b = it := by simpa using hb
    rcases e' with z | z
    · rw [z]; exact ⟨_, he, fun v q => nomatch q⟩
    · rw [z]; exact ⟨o, ho, fun v q => by rw [hd] at q; cases q⟩
  keep := fun i h h' st k => let ⟨⟨old, he⟩, ⟨o, ho, r⟩, hne⟩ := st; ⟨⟨old, k e (by simp) _ he⟩, ⟨o, k it (by simp) _ ho, r⟩, hne⟩
  item := by
    intro X hP hw hK hc i pins s σ H E I hf st hg
    subst hP hw hK
    obtain ⟨⟨old, he⟩, hit, hne, hai, hae⟩ := st
    obtain ⟨xs, x, hq, hx⟩ := hg
    obtain ⟨its, rv, p, hz⟩ := I.tuple hq
    obtain ⟨u, hu, ru⟩ := rv.get hx
    have hel : e < s.heap.objs.size := Heap.lt_size he
    have hil : it < s.heap.objs.size := by obtain ⟨_, q, _⟩ := hit; exact Heap.lt_size q
    have p' : s.heap.IsTuple a its.toArray := p
    have hlt : i < its.toArray.size := by
      have e0 := rv.length
      have e1 := (List.getElem?_eq_some_iff.mp hx).1
      simp; omega
    refine wpAny_pyNext_enum_itemC (Draws.tuple (A := X.A.in1) (I.ok.hd hc) it a hai its.toArray) he ⟨hit, p'⟩ hlt hne (by simp [hne, Ne.symm hae]) fun y h' tk hy ho hst hT hsz hk => ?_
    obtain ⟨hit', _⟩ := hst
    have ey : y = u := by
      have e1 : its.toArray[i]? = some y := hy
      rw [List.getElem?_toArray, hu] at e1
      exact (Option.some.inj e1).symm
    subst ey
    refine ⟨_, rfl, wpAny_letOwnedTupleGo_enum (s := { s with heap := h', toks := tk + 1 }) ho fun h'' he' sb => ?_⟩
    have hT2 : h''.get? s.heap.objs.size = some { cls := .type "tuple", data := .seq #[.int (c + (i : Nat)) tk, y] } := (sb.2 _ (Nat.ne_of_gt hel)).trans hT
    have new : ObjOk X.prog X.w (upd H s.heap.objs.size (.tup [.int (c + (i : Nat)), x])) h'' s.heap.objs.size (.tup [.int (c + (i : Nat)), x]) :=
      ⟨by show 2 ≤ sizeLine; decide, [.int (c + (i : Nat)) tk, y], .cons ⟨_, rfl⟩ (.cons ru .nil), ⟨_, hT2, rfl, _, rfl⟩⟩
    have I1 : Inv X pins σ (upd H s.heap.objs.size (.tup [.int (c + (i : Nat)), x])) { s with heap := h'', toks := tk + 1 } :=
      I.turnedNew (ch := [e, it]) (fun b ob hb q => (sb.2 b (fun z => hb (by simp [z]))).trans (hk b ob (fun z => hb (by simp [z])) (fun z => hb (by simp [z])) q)) hf (Nat.le_refl _) new
    refine ⟨.ref s.heap.objs.size, _, I1, rfl, ⟨_, x, rfl, I.hok.fresh (Nat.le_refl _), rfl, fun ys hy => by rw [I.tuple_inj hy hq]; exact hx⟩, ⟨⟨y, ?_⟩, (let ⟨o, ho, r⟩ := hit'; ⟨o, (sb.2 it (Ne.symm hne)).trans ho, r⟩), hne, hai, hae⟩, fun b hb => ?_⟩
    · have e1 : c + ((i + 1 : Nat) : Int) = c + (i : Int) + 1 := by omega
      rw [e1]; exact he'
    · have hb' : b < s.heap.objs.size := by
        have e' : b = e ∨ b = it := by simpa using hb
        rcases e' with z | z
        · rw [z]; exact hel
        · rw [z]; exact hil
      rw [upd_ne (Nat.ne_of_lt hb')]
      exact (hf b hb).1
  done := by
    intro X hP hw hK hc i pins s σ H E I hf st hg
    subst hP hw hK
    obtain ⟨⟨old, he⟩, hit, hne, hai, hae⟩ := st
    obtain ⟨xs, hq, hx⟩ := hg
    obtain ⟨its, rv, p, hz⟩ := I.tuple hq
    obtain ⟨f0, f1, f2, f3, f4, f5⟩ := hf it (by simp)
    have hl := rv.length
    have p' : s.heap.IsTuple a its.toArray := p
    have hs : its.toArray.size = i := by simp; omega
    exact wpAny_pyNext_enum_endD (Draws.tuple (A := X.A.in1) (I.ok.hd hc) it a hai its.toArray) he ⟨by rw [hs]; exact hit, p'⟩ fun h' eb => ⟨rfl, I.turned (t' := s.toks) (fun b o hb q => eb b o hb q) f0 f1 f3 f4 f5⟩
  self := fun A i s Q E st h => let ⟨⟨_, he⟩, _⟩ := st; wpAny_pyIter_enum he h
section
variable {M : Model} {A : Around} {E : Value → Shared → Prop} {s : Shared} {env : Env}
theorem callWith_typeKw {pos : Pos} {T : String} {e : Expr} {rest : List Expr} {kws : List Keyword} {Q : Value → Shared → Prop}
    (h : wpAny M A (spliced (backTo pos (starEach (e :: rest) env))) (fun vs s₁ => wpAny M A (evalAll ((backToKw pos (keywordEach kws env)).map (·.2)))
      (fun kvs s₂ => wpAny M A (call (.type T) vs (((backToKw pos (keywordEach kws env)).filterMap (·.1)).zip kvs)) Q E s₂) E s₁) E s)
    (he : backTo pos (starEach (e :: rest) env) = (false, eval e env) :: backTo pos (starEach rest env) := by rfl)
    (hplain : (backTo pos (starEach (e :: rest) env)).any (·.1) = false := by rfl)
    (hall : (backToKw pos (keywordEach kws env)).all (·.1.isSome) = true := by rfl)
    (hkw : (backToKw pos (keywordEach kws env)).any (·.1.isNone) = false := by rfl) :
    wpAny M A (callWith pos (.type T) [] (backTo pos (starEach (e :: rest) env)) (backToKw pos (keywordEach kws env))) Q E s := by
  have h2 : wpAny M A (evalArgs (.type T) true (backTo pos (starEach (e :: rest) env)) (backToKw pos (keywordEach kws env))) (fun a s₁ => wpAny M A (call (.type T) ([] ++ a.pos) a.kw) Q E s₁) E s := by
    rw [he] at h ⊢
    exact evalArgs_kwB hall h
  unfold callWith
  refine wpAny_bind (wpAny_holding (wpAny_mono h2 (fun a s₁ h₁ => wpAny_bind (wpAny_standAt ?_)) fun _ _ x => x))
  simp only [hplain, hkw, Bool.or_false]
  refine wpAny_bind (wpAny_pure ?_)
  exact wpAny_bind (wpAny_mono h₁ (fun r s₂ hr => wpAny_bind (wpAny_holding (wpAny_point (wpAny_pure hr)))) fun _ _ x => x)
end
def iEnumS (K : PySem.W.Frag) (ta tk : TA) : TI := fun σ H R => ta σ H fun vs H1 => tk σ H1 fun zs H2 => ∃ a xs c, vs = [.ref a] ∧ zs = [.int c] ∧ -(2 ^ 63) ≤ c ∧ c < 2 ^ 63 ∧ SqT K H2 a xs ∧ R (ItS K a c) H2
theorem pi_enumS {X : Cx} {e : Expr} {ta tk : TA} {p pos tpos : Pos} {elts : List Expr} {kk : Nat} {kws : List Keyword} (hg : Gl X "enumerate") (hm : X.mg "enumerate" = none) (ha : PA X [e] ta) (hk : PK X kws tk)
    (he : backTo pos (starEach [e] X.env) = (false, eval e X.env) :: backTo pos (starEach [] X.env) := by rfl) (hpl : (backTo pos (starEach [e] X.env)).any (·.1) = false := by rfl)
    (hall : (backToKw pos (keywordEach kws X.env)).all (·.1.isSome) = true := by rfl) (hnone : (backToKw pos (keywordEach kws X.env)).any (·.1.isNone) = false := by rfl) (hks : (backToKw pos (keywordEach kws X.env)).filterMap (·.1) = [Str.ofString "start"] := by rfl) :
    PI X (.Tuple elts kk tpos) (.Call (.Name "enumerate" p) [e] kws pos) (iEnumS X.K ta tk) := by
  refine ⟨fun pins s σ H R I h => ?_⟩
  refine wpAny_Call_Name_kw (ld_blt I hg hm boot_enumerate ?_)
  refine callWith_typeKw (thn (ha.run pos pins s σ H _ I h) fun us s1 ⟨vs, H1, I1, r1, q1⟩ => thn (hk.run pos pins s1 σ H1 _ I1 q1) fun ws s2 ⟨zs, H2, I2, r2, q2⟩ => ?_) he hpl hall hnone
  rw [hks]
  obtain ⟨a, xs, c, rfl, rfl, hc0, hc1, hq, q⟩ := q2
  obtain ⟨u, rfl, ru⟩ := r1.one
  cases ru
  obtain ⟨u2, rfl, t, rfl⟩ := r2.one
  obtain ⟨its, rv, p', hz⟩ := I2.tuple hq
  have p'' : s2.heap.IsTuple a its.toArray := p'
  have hal : a < s2.heap.objs.size := by obtain ⟨o, ho, _⟩ := p''; exact Heap.lt_size ho
  refine enum_begins_start (begins_tuple a its.toArray) p'' hc0 hc1 fun h' he' hit hsz hkp => wpAny_pyIter_enum he' ?_
  have I3 : Inv X pins σ H2 { s2 with heap := h' } := I2.kept (t' := s2.toks) hkp
  refine ⟨s2.heap.objs.size + 1, [s2.heap.objs.size + 1, s2.heap.objs.size], _, _, H2, rfl, I3, turn_enumS a (s2.heap.objs.size + 1) s2.heap.objs.size c, ⟨⟨.none, by simpa using he'⟩, ⟨_, hit, rfl, rfl⟩, Nat.succ_ne_self _, Nat.ne_of_lt hal, Nat.ne_of_lt (Nat.lt_succ_of_lt hal)⟩, fun b hb => ?_, q⟩
  have e' : b = s2.heap.objs.size + 1 ∨ b = s2.heap.objs.size := by simpa using hb
  have hle : s2.heap.objs.size ≤ b := by
    rcases e' with z | z
    · rw [z]; exact Nat.le_add_right _ _
    · rw [z]; exact Nat.le_refl _
  exact I2.fpOk hle (I2.hok.fresh hle)
theorem walk_enumS {K : PySem.W.Frag} {a : Addr} {c : Int} {xs : List V} : Walk (ItS K a c) xs.length (fun H => SqT K H a xs) (YPair (fun i => some (.int (c + (i : Nat)))) (fun i => xs[i]?)) := by
  refine ⟨fun i _ hi q => ⟨xs, xs[i], q, by simp [hi]⟩, fun _ q => ⟨xs, q, rfl⟩, fun i H v H' _ q y => ?_⟩
  obtain ⟨T, x, h1, h2, h3, h4⟩ := y
  exact ⟨T, .int (c + (i : Nat)), x, h1, h2, h3, rfl, h4 xs q⟩
end L2
namespace L2
open PySem PySem.Spec PyProof.Rows
/-- the list at a, counted from c, each item in a new pair -/
def ItL (K : PySem.W.Frag) (a : Addr) (c : Int) : It :=
  ⟨fun i H => ∃ (xs : List V) (x : V), SqL K H a xs ∧ xs[i]? = some x, fun i H v H' => ∃ T x, v = .ref T ∧ H T = none ∧ H' = upd H T (.tup [.int (c + (i : Nat)), x]) ∧ ∀ xs, SqL K H a xs → xs[i]? = some x, fun i H => ∃ xs : List V, SqL K H a xs ∧ xs.length = i⟩
theorem turn_enumL {P : Program} {w : World} {K : PySem.W.Frag} {elts : List Expr} {kk : Nat} {tpos : Pos} (a e it : Addr) (c : Int) :
    Turn P w K (.Tuple elts kk tpos) (ItL K a c) [e, it] e (fun i h => (∃ old, IsEnum h e it (c + ((i : Nat) : Int)) old) ∧ h.IsListIter it a i ∧ e ≠ it ∧ a ≠ it ∧ a ≠ e) where
  mem := by simp
  obj := fun i h st b hb => by
    obtain ⟨⟨old, he⟩, ⟨o, ho, hc, hd⟩, _⟩ := st
    have e' : b = e ∨ b = it := by simpa using hb
    rcases e' with z | z
    · rw [z]; exact ⟨_, he, fun v q => nomatch q⟩
    · rw [z]; exact ⟨o, ho, fun v q => by rw [hd] at q; cases q⟩
  keep := fun i h h' st k => let ⟨⟨old, he⟩, ⟨o, ho, r⟩, hne⟩ := st; ⟨⟨old, k e (by simp) _ he⟩, ⟨o, k it (by simp) _ ho, r⟩, hne⟩
  item := by
    intro X hP hw hK hc i pins s σ H E I hf st hg
    subst hP hw hK
    obtain ⟨⟨old, he⟩, hit, hne, hai, hae⟩ := st
    obtain ⟨xs, x, hq, hx⟩ := hg
    obtain ⟨its, rv, p, hz⟩ := I.list hq
    obtain ⟨u, hu, ru⟩ := rv.get hx
    have hel : e < s.heap.objs.size := Heap.lt_size he
    have hil : it < s.heap.objs.size := by obtain ⟨_, q, _⟩ := hit; exact Heap.lt_size q
    have p' : s.heap.IsList a its.toArray := p.isList
    have hlt : i < its.toArray.size := by
      have e0 := rv.length
      have e1 := (List.getElem?_eq_some_iff.mp hx).1
      simp; omega
    refine wpAny_pyNext_enum_itemC (Draws.list (A := X.A.in1) (I.ok.hd hc) it a hai its.toArray) he ⟨hit, p'⟩ hlt hne (by simp [hne, Ne.symm hae]) fun y h' tk hy ho hst hT hsz hk => ?_
    obtain ⟨hit', _⟩ := hst
    have ey : y = u := by
      have e1 : its.toArray[i]? = some y := hy
      rw [List.getElem?_toArray, hu] at e1
      exact (Option.some.inj e1).symm
    subst ey
    refine ⟨_, rfl, wpAny_letOwnedTupleGo_enum (s := { s with heap := h', toks := tk + 1 }) ho fun h'' he' sb => ?_⟩
    have hT2 : h''.get? s.heap.objs.size = some { cls := .type "tuple", data := .seq #[.int (c + (i : Nat)) tk, y] } := (sb.2 _ (Nat.ne_of_gt hel)).trans hT
    have new : ObjOk X.prog X.w (upd H s.heap.objs.size (.tup [.int (c + (i : Nat)), x])) h'' s.heap.objs.size (.tup [.int (c + (i : Nat)), x]) :=
      ⟨by show 2 ≤ sizeLine; decide, [.int (c + (i : Nat)) tk, y], .cons ⟨_, rfl⟩ (.cons ru .nil), ⟨_, hT2, rfl, _, rfl⟩⟩
    have I1 : Inv X pins σ (upd H s.heap.objs.size (.tup [.int (c + (i : Nat)), x])) { s with heap := h'', toks := tk + 1 } :=
      I.turnedNew (ch := [e, it]) (fun b ob hb q => (sb.2 b (fun z => hb (by simp [z]))).trans (hk b ob (fun z => hb (by simp [z])) (fun z => hb (by simp [z])) q)) hf (Nat.le_refl _) new
    refine ⟨.ref s.heap.objs.size, _, I1, rfl, ⟨_, x, rfl, I.hok.fresh (Nat.le_refl _), rfl, fun ys hy => by rw [I.list_inj hy hq]; exact hx⟩, ⟨⟨y, ?_⟩, (let ⟨o, ho, r⟩ := hit'; ⟨o, (sb.2 it (Ne.symm hne)).trans ho, r⟩), hne, hai, hae⟩, fun b hb => ?_⟩
    · have e1 : c + ((i + 1 : Nat) : Int) = c + (i : Int) + 1 := by omega
      rw [e1]; exact he'
    · have hb' : b < s.heap.objs.size := by
        have e' : b = e ∨ b = it := by simpa using hb
        rcases e' with z | z
        · rw [z]; exact hel
        · rw [z]; exact hil
      rw [upd_ne (Nat.ne_of_lt hb')]
      exact (hf b hb).1
  done := by
    intro X hP hw hK hc i pins s σ H E I hf st hg
    subst hP hw hK
    obtain ⟨⟨old, he⟩, hit, hne, hai, hae⟩ := st
    obtain ⟨xs, hq, hx⟩ := hg
    obtain ⟨its, rv, p, hz⟩ := I.list hq
    obtain ⟨f0, f1, f2, f3, f4, f5⟩ := hf it (by simp)
    have hl := rv.length
    have p' : s.heap.IsList a its.toArray := p.isList
    have hs : its.toArray.size = i := by simp; omega
    exact wpAny_pyNext_enum_endD (Draws.list (A := X.A.in1) (I.ok.hd hc) it a hai its.toArray) he ⟨by rw [hs]; exact hit, p'⟩ fun h' eb => ⟨rfl, I.turned (t' := s.toks) (fun b o hb q => eb b o hb q) f0 f1 f3 f4 f5⟩
  self := fun A i s Q E st h => let ⟨⟨_, he⟩, _⟩ := st; wpAny_pyIter_enum he h
def iEnumL (K : PySem.W.Frag) (ta tk : TA) : TI := fun σ H R => ta σ H fun vs H1 => tk σ H1 fun zs H2 => ∃ a xs c, vs = [.ref a] ∧ zs = [.int c] ∧ -(2 ^ 63) ≤ c ∧ c < 2 ^ 63 ∧ SqL K H2 a xs ∧ R (ItL K a c) H2
theorem pi_enumL {X : Cx} {e : Expr} {ta tk : TA} {p pos tpos : Pos} {elts : List Expr} {kk : Nat} {kws : List Keyword} (hg : Gl X "enumerate") (hm : X.mg "enumerate" = none) (ha : PA X [e] ta) (hk : PK X kws tk)
    (he : backTo pos (starEach [e] X.env) = (false, eval e X.env) :: backTo pos (starEach [] X.env) := by rfl) (hpl : (backTo pos (starEach [e] X.env)).any (·.1) = false := by rfl)
    (hall : (backToKw pos (keywordEach kws X.env)).all (·.1.isSome) = true := by rfl) (hnone : (backToKw pos (keywordEach kws X.env)).any (·.1.isNone) = false := by rfl) (hks : (backToKw pos (keywordEach kws X.env)).filterMap (·.1) = [Str.ofString "start"] := by rfl) :
    PI X (.Tuple elts kk tpos) (.Call (.Name "enumerate" p) [e] kws pos) (iEnumL X.K ta tk) := by
  refine ⟨fun pins s σ H R I h => ?_⟩
  refine wpAny_Call_Name_kw (ld_blt I hg hm boot_enumerate ?_)
  refine callWith_typeKw (thn (ha.run pos pins s σ H _ I h) fun us s1 ⟨vs, H1, I1, r1, q1⟩ => thn (hk.run pos pins s1 σ H1 _ I1 q1) fun ws s2 ⟨zs, H2, I2, r2, q2⟩ => ?_) he hpl hall hnone
  rw [hks]
  obtain ⟨a, xs, c, rfl, rfl, hc0, hc1, hq, q⟩ := q2
  obtain ⟨u, rfl, ru⟩ := r1.one
  cases ru
  obtain ⟨u2, rfl, t, rfl⟩ := r2.one
  obtain ⟨its, rv, p', hz⟩ := I2.list hq
  have p'' : s2.heap.IsList a its.toArray := p'.isList
  have hal : a < s2.heap.objs.size := by obtain ⟨o, ho, _⟩ := p''; exact Heap.lt_size ho
  refine enum_begins_start (begins_list a its.toArray) p'' hc0 hc1 fun h' he' hit hsz hkp => wpAny_pyIter_enum he' ?_
  have I3 : Inv X pins σ H2 { s2 with heap := h' } := I2.kept (t' := s2.toks) hkp
  refine ⟨s2.heap.objs.size + 1, [s2.heap.objs.size + 1, s2.heap.objs.size], _, _, H2, rfl, I3, turn_enumL a (s2.heap.objs.size + 1) s2.heap.objs.size c, ⟨⟨.none, by simpa using he'⟩, ⟨_, hit, rfl, rfl⟩, Nat.succ_ne_self _, Nat.ne_of_lt hal, Nat.ne_of_lt (Nat.lt_succ_of_lt hal)⟩, fun b hb => ?_, q⟩
  have e' : b = s2.heap.objs.size + 1 ∨ b = s2.heap.objs.size := by simpa using hb
  have hle : s2.heap.objs.size ≤ b := by
    rcases e' with z | z
    · rw [z]; exact Nat.le_add_right _ _
    · rw [z]; exact Nat.le_refl _
  exact I2.fpOk hle (I2.hok.fresh hle)
theorem walk_enumL {K : PySem.W.Frag} {a : Addr} {c : Int} {xs : List V} : Walk (ItL K a c) xs.length (fun H => SqL K H a xs) (YPair (fun i => some (.int (c + (i : Nat)))) (fun i => xs[i]?)) := by
  refine ⟨fun i _ hi q => ⟨xs, xs[i], q, by simp [hi]⟩, fun _ q => ⟨xs, q, rfl⟩, fun i H v H' _ q y => ?_⟩
  obtain ⟨T, x, h1, h2, h3, h4⟩ := y
  exact ⟨T, .int (c + (i : Nat)), x, h1, h2, h3, rfl, h4 xs q⟩
end L2
/-! x += y, x -= y by the class's own __iadd__, __isub__; what they raise is wished for at the caller's slots -/
namespace L2
open PySem PySem.Spec PyProof.Rows Er
end L2
namespace L2
open PySem PySem.Spec PyProof.Rows
end L2
/-! o[i] = v by the class's own __setitem__; what it raises is wished for at the caller's slots -/
namespace L2
open PySem PySem.Spec PyProof.Rows Er
end L2
/-! d == e of dicts whose values are compared by their own __eq__ -/
namespace L2
open PySem PySem.Spec PyProof.Rows Er
end L2
/-! d == e of dicts whose values are own objects with an __eq__ of their own -/
namespace L2
open PySem PySem.Spec PyProof.Rows Er
end L2
/-! sorted(list), of any length: ints, texts. -/
namespace L2
open PySem PySem.Spec PyProof.Rows
section
variable {X : Cx}
def rSortedSN (K : PySem.W.Frag) : List V → Hp → VK → Prop := fun vs H Q => ∃ (a : Addr) (xs : List Str), vs = [V.ref a] ∧ SqL K H a (xs.map V.str) ∧ xs.length ≤ sizeLine ∧
  ∀ (ys : List Str) (p : Addr), ys.Perm xs → sortedS ys = true → H p = none → Q (.ref p) (upd H p (.lst (ys.map V.str)))
theorem cr_sortedSN : CallR X (.builtin "sorted") (rSortedSN X.K) := by
  intro pins s σ H vs us Q I r h
  obtain ⟨a, xs, rfl, hs, few, q⟩ := h
  obtain ⟨its, rv, hl, _⟩ := I.list hs
  rw [Vals.ref1 r]
  have hlen0 := rv.length
  rw [List.length_map] at hlen0
  refine PyProof.Rows.sorted_strsAny hl.isList rv.strs (by rw [← hlen0]; exact few) fun out ys h1 h2 h3 => ?_
  obtain ⟨ep, he'⟩ := PyProof.Rows.sortedAll_at s.heap its out
  have hlen : (ys.map V.str).length ≤ sizeLine := by rw [List.length_map, h2.length_eq]; exact few
  exact ⟨.ref _, upd H (s.heap.objs.size + 1) (.lst (ys.map V.str)), I.laid (t' := s.toks) (fun _ _ => PyProof.Rows.sortedAll_old) (Nat.le_succ _) ⟨hlen, out.toList, ep, vals_of_strs h1, he'⟩, rfl, q ys _ h2 h3 (I.hok.fresh (Nat.le_succ _))⟩
end
end L2
/-! C(..) and C(*xs) of an own class where what its __init__ raises is wished for at the caller's slots -/
namespace L2
open PySem PySem.Spec PyProof.Rows
def tMakeSS (K : PySem.W.Frag) (C : Addr) (sp : Sp) (E : St → XK) (te : TE) : TE := fun σ H Q => tMakeS K C sp (E σ) te σ H Q
section
variable {X : Cx} {CX : CXT} {k : Nat} {f C : Addr} {sp : Sp} {E : St → XK} {x : Str} {e : Expr} {es : List Expr} {te : TE} {t : TA} {p sp_ pos : Pos}
theorem run_makeRAt {pins : List (Addr × Obj)} {σ : L2.St} {H : Hp} {s : Shared} {Q : VK} {us : List Value} {vs : List V} (M : Mk X.K C f) (F : FnR X.prog X.w X.K X.mg X.base CX k f sp) (hr : Room (k + 1) X.A) (hx : PassesAt CX X σ (E σ)) (I : Inv X pins σ H s) (r : Vals vs us)
    (h : ∀ x dx, H x = Option.none → H dx = Option.none → dx ≠ x → sp (V.ref x :: vs) (upd (upd H dx (.own x)) x (.ins C dx [])) (fun v H2 => v = .non ∧ Q (.ref x) H2) (E σ)) :
    wpAny (model X.prog X.w) X.A (call (.ref C) us) (EP X pins σ Q) X.xe s := by
  have hq := h (s.heap.objs.size + 1) s.heap.objs.size (I.hok.fresh (Nat.le_succ _)) (I.hok.fresh (Nat.le_refl _)) (Nat.ne_of_lt (Nat.lt_succ_self _))
  have I2 := Inv.made (C := C) I
  have r2 : Vals (V.ref (s.heap.objs.size + 1) :: vs) (Value.ref (s.heap.objs.size + 1) :: us) := .cons rfl r
  refine wpAny_call (make_map (f := f) I.kIn M.makes M.init (beq_iff_eq.mp M.fn) (codeAny_mono (F _ X.stack _ _ (Value.ref (s.heap.objs.size + 1) :: us) _ _ (E σ) (hr.make C us []) (I2.env0.make C us []) r2 hq) fun r s' hq' => ?_))
  cases r with
  | error e => exact hx pins _ _ e s' I2 hq'
  | ok fl =>
    cases fl with
    | ret u =>
      obtain ⟨v, H', I3, rv, ev, q3⟩ := I2.after hq'
      subst ev
      exact ⟨rv, ⟨V.ref (s.heap.objs.size + 1), H', I3, rfl, q3⟩⟩
    | next => exact False.elim hq'
    | brk => exact False.elim hq'
    | cont => exact False.elim hq'
end
end L2
/-! try: .. except (A, B, ..) as n: with a suite that raises, «raise X(..) from n». -/
namespace L2R
open PySem PySem.Spec PyProof.Rows L2 HotX
section
variable {X : Cx} {pins : List (Addr × Obj)} {σ : L2.St} {H : Hp} {s : Shared}
/-- the name of the clause goes, said of the heap alone -/
theorem gone_inv {i : Nat} {n : Str} (I : Inv X pins σ H s) (hN : X.N.Nodup) (hi : X.N[i]? = some n) (hl : X.env.kindOf n = some .local) :
    ∃ m, s.heap.Ns X.env.locals m ∧ ∀ (s' : Shared) (v : Option Value), s'.heap.Ns X.env.locals (fun x => if x = n then v else m x) → Heap.SameBut X.env.locals s.heap s'.heap → s'.os = s.os → AllBare s'.gens → Inv X pins (σ.set i none) H s' := by
  obtain ⟨m, hn, look⟩ := id I.loc
  refine ⟨m, hn, fun s' v hn' sb ho hg => ?_⟩
  have low : ∀ {b : Addr} {o : Obj}, X.s_0.heap.get? b = some o → s'.heap.get? b = s.heap.get? b := fun {b o} e => sb.2 b (Nat.ne_of_lt (Nat.lt_of_lt_of_le (Heap.lt_size e) I.ok.above))
  refine ⟨I.ok, ho.trans I.os, hg, ⟨fun b o e n hb hx => (low e).trans (I.base.keep b o e n hb hx), fun b o e n hb hx => ?_, I.base.free, fun b o e hx => ?_, I.base.tups, I.base.frzs, I.base.tbls⟩, ⟨_, hn', fun j y w e1 e2 e3 => ?_⟩, fun y c e => ?_, I.free, I.freeC, fun p hp => ?_, fun b ob e => ?_, by simpa using I.len⟩
  · obtain ⟨sl, q⟩ := I.base.slot b o e n hb hx
    exact ⟨sl, (low e).trans q⟩
  · obtain ⟨o', q⟩ := I.base.there b o e hx
    exact ⟨o', (low e).trans q⟩
  · have nj : j ≠ i := fun z => by
      rw [z] at e2
      by_cases lt : i < σ.length
      · rw [List.getElem?_set_self lt] at e2
        cases e2
      · rw [List.getElem?_eq_none (by simpa using lt)] at e2
        cases e2
    rw [List.getElem?_set_ne (Ne.symm nj)] at e2
    obtain ⟨u, r, q⟩ := look j y w e1 e2 e3
    have ny : y ≠ n := fun z => nj (nodup_ix hN e1 (z ▸ hi))
    refine ⟨u, r, ?_⟩
    rcases q with ⟨k, e⟩ | ⟨k, c, e, z⟩
    · exact .inl ⟨k, (if_neg ny).trans e⟩
    · exact .inr ⟨k, c, e, z.sameBut sb (I.cne y c e)⟩
  · obtain ⟨w, z⟩ := I.cell y c e
    exact ⟨w, z.sameBut sb (I.cne y c e)⟩
  · obtain ⟨e, nh, ne, nf, d⟩ := I.pin p hp
    exact ⟨(sb.2 p.1 ne).trans e, nh, ne, nf, d⟩
  · refine (I.hok b ob e).stay (fun c w hc q => (sb.2 c ?_).trans q) (fun _ q => q) fun _ _ q => q
    rintro rfl
    rcases hc with hc | hc
    · rw [← hc, I.free] at e
      cases e
    · rw [I.free] at hc
      cases hc
end
theorem traced_but {h h' B : Heap} {e L : Addr} {Z : Obj → Prop} {fl : Value} {m : Str → Option Value} (x : HandSPX.TracedZ h B e Z fl) (hn : h.Ns L m) (sb : Heap.SameBut L h h') : HandSPX.TracedZ h' B e Z fl := by
  obtain ⟨oe, vs, T, oT, ts, he, hz, hd, h1, hT0, hTe, hT, hdT, h3⟩ := x
  obtain ⟨oL, es, ep, hL, hdL, _⟩ := hn
  have rec_ne : ∀ {b : Addr} {o : Obj} {us : Array Value}, h.get? b = some o → o.data = .fields us → b ≠ L := fun {b o us} e1 e2 z => by
    rw [z, hL] at e1
    cases e1
    rw [hdL] at e2
    cases e2
  exact ⟨oe, vs, T, oT, ts, (sb.2 e (rec_ne he hd)).trans he, hz, hd, h1, hT0, hTe, (sb.2 T (rec_ne hT hdT)).trans hT, hdT, h3⟩
theorem fly_keeps {h h' B : Heap} {l : List Env} {e : Addr} {Z : Obj → Prop} (x : HandSPX.FlyingZ B l e Z h) (k : ∀ b o, h.get? b = some o → h'.get? b = some o) : HandSPX.FlyingZ B l e Z h' := by
  obtain ⟨a1, a2, a3, oe, vs, T, oT, ts, he, hz, hd, h1, hT0, hTe, hT, hdT, h3⟩ := x
  exact ⟨fun b o q => k b o (a1 b o q), a2, a3.of_keeps fun b o q _ => ⟨o, k b o q, rfl⟩, oe, vs, T, oT, ts, k _ _ he, hz, hd, h1, hT0, hTe, k _ _ hT, hdT, h3⟩
/-- the heap with the frame's names as they stand in another one -/
theorem laid_over {g h : Heap} {L : Addr} {m m' : Str → Option Value} (hn : g.Ns L m) (hn' : h.Ns L m') : ∃ g', Heap.SameBut L g g' ∧ g'.Ns L m' ∧ g'.get? L = h.get? L := by
  obtain ⟨o, _, _, ho, _⟩ := hn
  obtain ⟨o', es, ep, ho', hd', sk, hf⟩ := hn'
  have fr : o'.isFreed = false := Obj.isFreed_of_dict hd'
  have self : (g.update L fun _ => o').get? L = some o' := Heap.get?_update_self (fun _ => o') ho fr
  exact ⟨g.update L fun _ => o', ⟨by simp [Heap.update], fun b hb => Heap.get?_update_other _ _ (Ne.symm hb)⟩, ⟨o', es, ep, self, hd', sk, hf⟩, self.trans ho'.symm⟩
/-- what becomes of an error that the suite lets out: it is noted, the name goes, it is passed on -/
def outR (X : Cx) (a : Addr) (n : Str) (pos : Pos) (x : Value) (s : Shared) : Prop :=
  wpAny (model X.prog X.w) (X.A.mark (some (.ref a))) (noteFrame x X.env) (fun _ s1 =>
    wpAny (model X.prog X.w) (X.A.mark (some (.ref a))) (do bindName X.env n .none; unbindBehindTheSuite X.env n pos) (fun _ s2 =>
      wpAny (model X.prog X.w) (X.A.mark (some (.ref a))) (passOn "try.except-as" x X.env : Sem Flow) (fun _ _ => False) (notedBy (model X.prog X.w) (X.A.mark (some (.ref a))) X.env (cameBackBy (model X.prog X.w) X.A X.env X.xe)) s2)
      (fun _ _ => False) s1) (fun _ _ => False) s
/-- the context of such a suite -/
abbrev suiteR (X : Cx) (a : Addr) (n : Str) (pos : Pos) (pn : List (Addr × Obj)) : Cx := { X with A := X.A.mark (some (.ref a)), calm := false, pn := pn, xe := outR X a n pos }
section
variable {X : Cx} {pins : List (Addr × Obj)} {σ : L2.St} {H : Hp} {s : Shared}
theorem suiteR_of {a : Addr} {n : Str} {pos : Pos} {pn pn' : List (Addr × Obj)} (I : Inv (X.suite a pn) pn' σ H s) : Inv (suiteR X a n pos pn) pn' σ H s := Inv.unwish (X := suiteR X a n pos pn) (E := fun _ _ => False) I
theorem unsuiteR {a : Addr} {n : Str} {pos : Pos} {q : Addr × Obj} {pn' : List (Addr × Obj)} (I : Inv (suiteR X a n pos (q :: (X.pn ++ pins))) pn' σ H s) (ok : X.Ok) : Inv X pins σ H s :=
  Inv.unsuite (X := X) (a := a) (q := q) (pn' := pn') (show Inv (X.suite a (q :: (X.pn ++ pins))) pn' σ H s from I.wish fun _ _ => False) ok
theorem takesR {Wout : WX} {a : Addr} {i : Nat} {n : Str} {pos : Pos} {q : Addr × Obj} (ok : X.Ok) (hs : X.stack = X.env :: X.outer) (hf : X.env.frame = some X.env.locals) (hN : X.N.Nodup) (hi : X.N[i]? = some n) (hln : X.env.kindOf n = some .local)
    (hpa : ∀ hd : Option Value, PassesOwnAt (model X.prog X.w) (X.A.mark hd) X.A X.env X.xe) (tk : L2.Takes X Wout) :
    L2.Takes (suiteR X a n pos (q :: (X.pn ++ pins))) (fun cls d σ H => Wout cls d (σ.set i none) H) := by
  intro u s2 x2
  obtain ⟨e, B, sI, pn2, σ2, H2, cls, d, rfl, I2, nb, up, sky, na, os, ag, w⟩ := x2
  have J : Inv X pins σ2 H2 sI := unsuiteR I2 ok
  have fr : (X.A.mark (some (.ref a))).frames = some (X.env :: X.outer) := by
    show X.A.frames = _
    rw [ok.frames, hs]
  have sky' : L2.Sky B (X.env :: X.outer) e (Zc cls d) X.env.locals s2.heap := by rw [← hs]; exact sky
  obtain ⟨m, hn, gone⟩ := gone_inv J hN hi hln
  have hcls : (X.env.scope.kind == .class || (X.env.scope.kind == .module && X.env.locals != X.env.globals)) = false := by rw [ok.kind]; rfl
  show wpAny _ _ (noteFrame (.ref e) X.env) _ _ _
  have fin : ∀ h1, HandSPX.HeldZ B (X.env :: X.outer) e (Zc cls d) X.env.locals h1 → s2.heap.UpToSlots h1 →
      wpAny (model X.prog X.w) (X.A.mark (some (.ref a))) (do bindName X.env n .none; unbindBehindTheSuite X.env n pos) (fun _ s2 =>
        wpAny (model X.prog X.w) (X.A.mark (some (.ref a))) (passOn "try.except-as" (.ref e) X.env : Sem Flow) (fun _ _ => False) (notedBy (model X.prog X.w) (X.A.mark (some (.ref a))) X.env (cameBackBy (model X.prog X.w) X.A X.env X.xe)) s2)
        (fun _ _ => False) { s2 with heap := h1 } := by
    intro h1 held up1
    have hn1 : h1.Ns X.env.locals m := (up.trans up1).ns hn
    refine wpAny_nameGoes_keeps hln hn1 hcls fun h2 v hn2 sb2 => ?_
    obtain ⟨b1, b0, f1, t1⟩ := held
    have bL : B.get? X.env.locals = none := (f1.mem (List.mem_filterMap.mpr ⟨X.env, List.mem_cons_self, hf⟩)).1
    have b2 : B.StaysIn h2 := fun b o hb => (sb2.2 b fun z => by rw [z, bL] at hb; cases hb).trans (b1 b o hb)
    have f2 : h2.FunFrames B (X.env :: X.outer) := Heap.FunFrames.sameBut sb2 hn2 f1
    have t2 := traced_but t1 hn1 sb2
    have held2 : HandSPX.HeldZ B (X.env :: X.outer) e (Zc cls d) X.env.locals h2 := ⟨b2, b0, f2, t2⟩
    obtain ⟨oe, vs, T, oT, ts, he, hz, hd, hT, _⟩ := id t2
    have on : wpAny (model X.prog X.w) (X.A.mark (some (.ref a))) (setFlight (.ref e) X.env.frame) (fun _ s4 => wpAny (model X.prog X.w) (X.A.mark (some (.ref a))) (throw (.ref e) : Sem Flow) (fun _ _ => False) (notedBy (model X.prog X.w) (X.A.mark (some (.ref a))) X.env (cameBackBy (model X.prog X.w) X.A X.env X.xe)) s4) (notedBy (model X.prog X.w) (X.A.mark (some (.ref a))) X.env (cameBackBy (model X.prog X.w) X.A X.env X.xe)) { s2 with heap := h2, toks := s2.toks + 1 } := by
      rw [hf]
      refine HandSPX.setFlight_onZ held2 fun h3 held3 up3 => wpAny_throw (hpa (some (.ref a)) _ _ (tk _ _ ?_))
      obtain ⟨g, gs, gn, gl⟩ := laid_over hn hn2
      refine ⟨e, B, { sI with heap := g }, pins, σ2.set i none, H2, cls, d, rfl, gone _ v gn gs rfl J.bare, fun b o hb nbf => ?_, fun b o hb nd => ?_, .inr (.inr (by rw [hs]; exact held3)), na, os, ag, w⟩
      · have nL : b ≠ X.env.locals := fun z => nbf (by rw [z, hs]; exact List.mem_filterMap.mpr ⟨X.env, List.mem_cons_self, hf⟩)
        exact nb b o ((gs.2 b nL).symm.trans hb) nbf
      · by_cases hL : b = X.env.locals
        · subst hL
          exact up3 _ o (gl.symm.trans hb) nd
        · obtain ⟨sl, q1⟩ := (up.trans up1) b o ((gs.2 b hL).symm.trans hb) nd
          obtain ⟨sl2, q2⟩ := up3 b _ ((sb2.2 b hL).trans q1) nd
          exact ⟨sl2, q2⟩
    unfold PySem.passOn
    refine wpAny_bind (wpAny_field he hd hT ?_)
    rw [if_neg (show ¬ ((Value.ref T == Value.none) = true) from by simp)]
    first
      | exact wpAny_bind (wpAny_pure (wpAny_bind on))
      | exact wpAny_bind on
  rcases sky' with ⟨hB, hn0, hl, oe, vs, he, hz, hd, h1⟩ | fl | hh
  · exact HandSPX.look_newZ Zc.steady fr hl hf he hB hn0 hd h1 hz fin
  · exact HandSPX.looks_onZ Zc.steady fr hf fl fin
  · exact HandSPX.againZ hf hh.2.2.2 (fin s2.heap hh (Heap.UpToSlots.refl _))
end
/-- what the clause's test says of an error -/
def HTest (X : Cx) (t : Expr) (cs : List Value) : Prop :=
  ∀ (a : Addr) (pn pins : List (Addr × Obj)) (σ : L2.St) (H : Hp) (s : Shared) (cls : Value) (b : Bool) (Q : Bool → Shared → Prop) (E : Value → Shared → Prop), Inv (X.suite a pn) pins σ H s → PySem.W.Looks (model X.prog X.w) s.heap (typeOf (.ref a)) cls → PySem.W.exmAny X.K cls cs = some b →
    (∀ h', (∀ q o, s.heap.get? q = some o → h'.get? q = some o) → Q b { s with heap := h' }) →
    wpAny (model X.prog X.w) (X.A.mark (some (.ref a))) (eval t X.env) (fun c s1 => wpAny (model X.prog X.w) (X.A.mark (some (.ref a))) (excMatches (.ref a) c) Q E s1) E s
theorem name_read {X : Cx} {x : Str} {c : Value} {a : Addr} {pn pins : List (Addr × Obj)} {σ : L2.St} {H : Hp} {s : Shared} {np : Pos} {Q E : Value → Shared → Prop} (n : Names X x c) (I : Inv (X.suite a pn) pins σ H s) (q : Q c s) :
    wpAny (model X.prog X.w) (X.A.mark (some (.ref a))) (eval (.Name x np) X.env) Q E s := by
  obtain ⟨g, dbg, m | ⟨m, v, nn⟩⟩ := n
  · exact ld_glob (X := X.suite a pn) I g m q dbg
  · exact ld_blt (X := X.suite a pn) I g m v q nn dbg
theorem htest2 {X : Cx} {x1 x2 : Str} {c1 c2 : Value} {p1 p2 tp : Pos} {k : Nat} (n1 : Names X x1 c1) (n2 : Names X x2 c2) : HTest X (.Tuple [.Name x1 p1, .Name x2 p2] k tp) [c1, c2] := by
  intro a pn pins σ H s cls b Q E I LT e q
  refine wpAny_Tuple (wpAny_items_cons (name_read n1 I (wpAny_items_cons (name_read n2 I (wpAny_items_nil ⟨by size_fits, ?_⟩)))))
  have kp : ∀ q o, s.heap.get? q = some o → (s.heap.push { cls := .type "tuple", data := .seq [c1, c2].toArray }).get? q = some o := fun _ _ z => Heap.get?_push_of_some _ z
  exact (PySem.W.exm_tup2 (I.kIn.keeps kp) (LT.keeps kp) (Heap.get?_push_size s.heap rfl) e).here (q _ kp)
theorem htest3 {X : Cx} {x1 x2 x3 : Str} {c1 c2 c3 : Value} {p1 p2 p3 tp : Pos} {k : Nat} (n1 : Names X x1 c1) (n2 : Names X x2 c2) (n3 : Names X x3 c3) : HTest X (.Tuple [.Name x1 p1, .Name x2 p2, .Name x3 p3] k tp) [c1, c2, c3] := by
  intro a pn pins σ H s cls b Q E I LT e q
  refine wpAny_Tuple (wpAny_items_cons (name_read n1 I (wpAny_items_cons (name_read n2 I (wpAny_items_cons (name_read n3 I (wpAny_items_nil ⟨by size_fits, ?_⟩)))))))
  have kp : ∀ q o, s.heap.get? q = some o → (s.heap.push { cls := .type "tuple", data := .seq [c1, c2, c3].toArray }).get? q = some o := fun _ _ z => Heap.get?_push_of_some _ z
  exact (PySem.W.exm_tup3 (I.kIn.keeps kp) (LT.keeps kp) (Heap.get?_push_size s.heap rfl) e).here (q _ kp)
/-- what is wished of an exception of the body -/
def wRf (K : PySem.W.Frag) (cs : List Value) (i : Nat) (ts : Addr → Value → Option Addr → TS) (Wout : WX) (D : Ends) : WX := fun cls d σ H =>
  ∃ b, PySem.W.exmAny K cls cs = some b ∧ (b = true → ∀ a, H a = none → ts a cls d { nx := fun σ' H' => D.nx (σ'.set i none) H', rt := D.rt, bk := fun σ' H' => D.bk (σ'.set i none) H', ct := fun σ' H' => D.ct (σ'.set i none) H' } (σ.set i (some (.ref a))) H) ∧
    (b = false → Wout cls d σ H)
section
variable {X : Cx} {n : Str} {i : Nat} {t : Expr} {cs : List Value} {body suite : List Stmt} {b₀ : Stmt} {pos pos' : Pos} {tb : WX → TS} {ts : Addr → Value → Option Addr → TS} {Wout : WX}
theorem ps_try_rf (hs : X.stack = X.env :: X.outer) (hf : X.env.frame = some X.env.locals) (hN : X.N.Nodup) (hi : X.N[i]? = some n) (hln : X.env.kindOf n = some .local) (hpa : ∀ hd : Option Value, PassesOwnAt (model X.prog X.w) (X.A.mark hd) X.A X.env X.xe) (tk : L2.Takes X Wout)
    (ht : HTest X t cs) (hb : ∀ (W : WX) (pn : List (Addr × Obj)) (xe : Value → Shared → Prop), L2N.Takes (X.tr pn xe) W → PassesOwn (model X.prog X.w) X.A X.env xe → PSs (X.tr pn xe) body (tb W))
    (hsu : ∀ (a : Addr) (oe : Obj) (cls : Value) (d : Option Addr) (pn : List (Addr × Obj)), L2N.Zn cls d oe → (∃ vs, oe.data = .fields vs) → L2.Takes (suiteR X a n pos' ((a, oe) :: pn)) (fun cls d σ H => Wout cls d (σ.set i none) H) → L2H.HotC (suiteR X a n pos' ((a, oe) :: pn)) →
      PSs (suiteR X a n pos' ((a, oe) :: pn)) (b₀ :: suite) (ts a cls d)) :
    PS X (.Try body [.ExceptHandler (some t) (some n) (b₀ :: suite) pos'] [] [] pos) (fun D σ H => tb (wRf X.K cs i ts Wout D) D σ H) := by
  refine ⟨fun pins s σ H D I todo => ?_⟩
  have ok := I.ok
  have fr : X.A.frames = some (X.env :: X.outer) := by rw [ok.frames, hs]
  have isLoc : Loc X.env.scope n := .inl hln
  let caught : Value → Shared → Prop := fun e s₁ => wpAny (model X.prog X.w) X.A (noteFrame e X.env) (fun _ s₂ => wpAny (model X.prog X.w) X.A (setFlight e none) (fun _ s₃ => wpAny (model X.prog X.w) X.A (handleBy e X.env [.ExceptHandler (some t) (some n) (b₀ :: suite) pos']) (SP X pins D) X.xe s₃) X.xe s₂) X.xe s₁
  refine wpAny_Try_except (wpAny_mono ((hb (wRf X.K cs i ts Wout D) (X.pn ++ pins) caught (fun u s' air => ?_) PassesOwn.looking).run [] s σ H D (I.toTry _) todo) (fun f s1 done => ?_) fun e s1 z => z)
  · obtain ⟨a, B, sI, pins', σ', H', cls, d, rfl, J0, nb, up, sky, na, os, ag, b, hb1, yes, no⟩ := air
    have J : Inv X pins σ' H' sI := J0.ofTry ok
    have sky' : L2.Sky B (X.env :: X.outer) a (L2N.Zn cls d) X.env.locals s'.heap := by rw [← hs]; exact sky
    show wpAny (model X.prog X.w) X.A (noteFrame (.ref a) X.env) _ _ _
    refine L2N.Sky.land L2N.Zn.steady fr hf sky' fun h3 fly up3 => ?_
    have J3 : Inv X pins σ' H' { s' with heap := h3 } := J.landed nb fly.1 (up.trans up3) os ag
    obtain ⟨oe3, vs3, he3, hz3, hd3⟩ := fly.there
    have offA : a ∉ frs (X.env :: X.outer) := fun m => by
      obtain ⟨_, o', e', nf⟩ := fly.2.2.1.mem m
      rw [he3] at e'
      cases e'
      exact nf _ hd3
    have noL : a ≠ X.env.locals := fun z => offA (List.mem_filterMap.mpr ⟨X.env, List.mem_cons_self, by rw [hf, z]⟩)
    have noF : a ∉ X.fs := fun m => let ⟨x, hx, q⟩ := List.mem_filterMap.mp m; offA (List.mem_filterMap.mpr ⟨x, List.mem_cons_of_mem _ hx, q⟩)
    have S3 := J3.suite he3 hd3 na noL noF
    refine wpAny_handleBy_cons (codeAny_handlers_test ?_) (by intro q; cases q)
    have kind : PySem.W.Looks (model X.prog X.w) h3 (typeOf (.ref a)) cls := fun A Q E s k q => wpAny_typeOf_ref (k _ _ he3) (by rw [hz3.1]; exact q)
    refine ht a _ [] _ _ _ cls b _ _ S3 kind hb1 fun h4 k4 => ?_
    have fly4 := fly_keeps fly k4
    have up4 : h3.UpToSlots h4 := Heap.UpToSlots.of_keeps k4
    cases b with
    | true =>
      refine codeAny_handlers_suite_as (HandSPX.lands_againZ fly4 fun h5 fly5 up5 => ?_)
      have J5 : Inv X pins σ' H' { s' with heap := h5 } := J.landed nb fly5.1 (((up.trans up3).trans up4).trans up5) os ag
      obtain ⟨o5, v5, at5, z5, d5⟩ := fly5.there
      have S5 := J5.suite at5 d5 na noL noF
      refine store_ok (X := X.suite a ((a, o5) :: (X.pn ++ pins))) (v := .ref a) S5 hN hi isLoc rfl (fun s6 S6 => ?_) (.inr hln)
      have hot : L2H.HotC (suiteR X a n pos' ((a, o5) :: (X.pn ++ pins))) := ⟨(a, o5), ⟨rfl, v5, d5, z5.2.2 v5 d5⟩, List.mem_cons_self⟩
      refine wpAny_mono ((hsu a o5 cls d (X.pn ++ pins) z5 ⟨_, d5⟩ (takesR ok hs hf hN hi hln hpa tk) hot).run [] s6 _ H' _ (suiteR_of S6) (yes rfl a na)) (fun f s7 done => ?_) (fun e7 s7 z => ?_)
      · have gone : ∀ {σ7 : L2.St} {H7 : Hp} {Q : Shared → Prop}, Inv (suiteR X a n pos' ((a, o5) :: (X.pn ++ pins))) [] σ7 H7 s7 → (∀ s8, Inv X pins (σ7.set i none) H7 s8 → Q s8) →
            wpAny (model X.prog X.w) X.A (do bindName X.env n .none; unbindBehindTheSuite X.env n pos') (fun _ s8 => Q s8) X.xe s7 := fun S7 q => gone_ok (unsuiteR S7 ok) hN hi hln q
        match f, done with
        | .next, ⟨σ7, H7, S7, q⟩ => exact gone S7 fun s8 J8 => ⟨_, _, J8, q⟩
        | .brk, ⟨σ7, H7, S7, q⟩ => exact gone S7 fun s8 J8 => ⟨_, _, J8, q⟩
        | .cont, ⟨σ7, H7, S7, q⟩ => exact gone S7 fun s8 J8 => ⟨_, _, J8, q⟩
        | .ret u, ⟨v7, σ7, H7, S7, r7, q⟩ => exact gone S7 fun s8 J8 => ⟨_, _, _, J8, r7, q⟩
      · exact wpAny_mono (show outR X a n pos' e7 s7 from z) (fun _ s8 q8 => wpAny_mono q8 (fun _ s9 q9 => q9) fun _ _ z => z.elim) fun _ _ z => z.elim
    | false =>
      show wpAny _ X.A (handleBy (.ref a) X.env []) _ _ _
      obtain ⟨_, _, _, oe, vs, T, oT, ts', he, hz, hd, h1, hr⟩ := id fly4
      refine wpAny_handleBy_nil ?_
      unfold PySem.passOn
      refine wpAny_bind (wpAny_field he hd h1 ?_)
      rw [if_neg (show ¬ ((Value.ref T == Value.none) = true) from by simp)]
      have on : wpAny (model X.prog X.w) X.A (setFlight (.ref a) X.env.frame) (fun _ s4 => wpAny (model X.prog X.w) X.A (throw (.ref a) : Sem Flow) (SP X pins D) X.xe s4) X.xe { s' with heap := h4 } := by
        rw [hf]
        refine HandSPX.setFlight_upZ (L2H.flyingZ_imp (fun o z => z.zc) fly4) fun h5 held up5 => wpAny_throw (tk _ _ ⟨a, B, sI, pins, σ', H', cls, d, rfl, J, nb, ((up.trans up3).trans up4).trans up5, .inr (.inr (by rw [hs]; exact held)), na, os, ag, no rfl⟩)
      first
        | exact wpAny_bind (wpAny_pure (wpAny_bind on))
        | exact wpAny_bind on
  · match f, done with
    | .next, ⟨σ', H', J, q⟩ => exact wpAny_execs_nil ⟨σ', H', J.ofTry ok, q⟩
    | .brk, ⟨σ', H', J, q⟩ => exact ⟨σ', H', J.ofTry ok, q⟩
    | .cont, ⟨σ', H', J, q⟩ => exact ⟨σ', H', J.ofTry ok, q⟩
    | .ret u, ⟨v, σ', H', J, r, q⟩ => exact ⟨v, σ', H', J.ofTry ok, r, q⟩
end
/-! ### raise X(..) from n -/
/-- the heap where a cause is noted -/
def causeAt (h : Heap) (a : Addr) (c : Value) : Heap := (h.update a (Obj.mapFields (·.setIfInBounds 3 c))).update a (Obj.mapFields (·.setIfInBounds 4 (.bool true)))
theorem causeAt_at {h : Heap} {a : Addr} {c : Value} {oe : Obj} {vs : Array Value} (ha : h.get? a = some oe) (hd : oe.data = .fields vs) :
    (causeAt h a c).get? a = some ((oe.mapFields (·.setIfInBounds 3 c)).mapFields (·.setIfInBounds 4 (.bool true))) ∧ ((oe.mapFields (·.setIfInBounds 3 c)).mapFields (·.setIfInBounds 4 (.bool true))).data = .fields ((vs.setIfInBounds 3 c).setIfInBounds 4 (.bool true)) := by
  have d3 := Obj.data_mapFields hd (·.setIfInBounds 3 c)
  have a3 := Heap.get?_update_self (Obj.mapFields (·.setIfInBounds 3 c)) ha (Obj.isFreed_of_fields d3)
  have d4 := Obj.data_mapFields d3 (·.setIfInBounds 4 (.bool true))
  exact ⟨Heap.get?_update_self (Obj.mapFields (·.setIfInBounds 4 (.bool true))) a3 (Obj.isFreed_of_fields d4), d4⟩
theorem causeAt_other {h : Heap} {a b : Addr} {c : Value} (hne : a ≠ b) : (causeAt h a c).get? b = h.get? b := by
  unfold causeAt
  rw [Heap.get?_update_other _ _ hne, Heap.get?_update_other _ _ hne]
section
variable {prog : Program} {w : World} {A : Around} {E : Value → Shared → Prop} {s : Shared}
theorem not_type {a : Addr} {oe : Obj} {vs : Array Value} (ha : s.heap.get? a = some oe) (hd : oe.data = .fields vs) {Q : Bool → Shared → Prop} (q : Q false s) : wpAny (model prog w) A (isType (.ref a)) Q E s := by
  simp only [isType, loadHead]
  refine wpAny_bind (wpAny_loadPart ha ?_)
  rw [hd]
  exact wpAny_pure q
theorem is_exc {a : Addr} {oe : Obj} {vs : Array Value} (ha : s.heap.get? a = some oe) (hd : oe.data = .fields vs) (L : PySem.W.Looks (model prog w) s.heap (isSubtype oe.cls (.type "BaseException")) true) {msg : String} {Q : Value → Shared → Prop} (q : Q (.ref a) s) :
    wpAny (model prog w) A (excFromValue (.ref a) msg) Q E s := by
  have LT : PySem.W.Looks (model prog w) s.heap (typeOf (.ref a)) oe.cls := fun A Q E s k q => wpAny_typeOf_ref (k _ _ ha) q
  have LI : PySem.W.Looks (model prog w) s.heap (isInstance (.ref a) (.type "BaseException")) true := LT.andThen L
  unfold excFromValue isExcClass
  refine wpAny_bind (wpAny_bind (not_type ha hd ?_))
  simp only [Bool.false_eq_true, if_false]
  refine wpAny_pure ?_
  simp only [Bool.false_eq_true, if_false]
  refine wpAny_bind (LI.here ?_)
  simp only [if_true]
  exact wpAny_pure q
theorem raise_made_hotF {env : Env} {x c : Sem Value} {Q : Flow → Shared → Prop} {x1 : Addr}
    (h : wpAny (model prog w) A x (fun v s₁ => ∃ a oe vs o1 v1, v = .ref a ∧ s₁.heap.get? a = some oe ∧ oe.data = .fields vs ∧ vs[1]? = some .none ∧ 4 < vs.size ∧ x1 ≠ a ∧ HotAt A x1 s₁.heap ∧ s₁.heap.get? x1 = some o1 ∧ o1.data = .fields v1 ∧
      (∀ Q' : Value → Shared → Prop, Q' (.ref x1) s₁ → wpAny (model prog w) A c Q' E s₁) ∧
      PySem.W.Looks (model prog w) s₁.heap (isSubtype o1.cls (.type "BaseException")) true ∧ PySem.W.Looks (model prog w) s₁.heap (isSubtype oe.cls (.type "BaseException")) true ∧ PySem.W.Looks (model prog w) (causeAt s₁.heap a (.ref x1)) (typeOf oe.cls) (.type "type") ∧
      E (.ref a) { s₁ with heap := (causeAt s₁.heap a (.ref x1)).update a (Obj.mapFields (·.setIfInBounds 2 (.ref x1))) }) E s) :
    wpAny (model prog w) A (raiseStmt env (some x) (some c)) Q E s := by
  unfold raiseStmt
  dsimp only
  refine wpAny_bind (wpAny_mono h (fun v s₁ h₁ => ?_) fun _ _ x => x)
  obtain ⟨a, oe, vs, o1, v1, rfl, ha, hd, h1, hi, hne, hot, hx, hdx, hc, L0, L1, L3, hE⟩ := h₁
  obtain ⟨ha4, hd4⟩ := causeAt_at (c := .ref x1) ha hd
  have hd3 := Obj.data_mapFields hd (·.setIfInBounds 3 (Value.ref x1))
  have ha3 := Heap.get?_update_self (Obj.mapFields (·.setIfInBounds 3 (Value.ref x1))) ha (Obj.isFreed_of_fields hd3)
  have s3 : 3 < vs.size := by omega
  have s4 : 4 < (vs.setIfInBounds 3 (Value.ref x1)).size := by rw [set_size]; exact hi
  have s2 : 2 < ((vs.setIfInBounds 3 (Value.ref x1)).setIfInBounds 4 (Value.bool true)).size := by rw [set_size, set_size]; omega
  have h14 : ((vs.setIfInBounds 3 (Value.ref x1)).setIfInBounds 4 (Value.bool true))[1]? = some Value.none := set_other (by decide) (set_other (by decide) h1)
  have hcls4 : ((oe.mapFields (·.setIfInBounds 3 (Value.ref x1))).mapFields (·.setIfInBounds 4 (.bool true))).cls = oe.cls := by rw [Obj.cls_mapFields, Obj.cls_mapFields]
  have LT4 : PySem.W.Looks (model prog w) (causeAt s₁.heap a (.ref x1)) (typeOf (.ref a)) oe.cls := fun A Q E s k q => wpAny_typeOf_ref (k _ _ ha4) (by rw [hcls4]; exact q)
  have hot4 : HotAt A x1 (causeAt s₁.heap a (.ref x1)) := by
    obtain ⟨q1, o, vs', q2, q3, q4⟩ := hot
    exact ⟨q1, o, vs', by rw [causeAt_other (Ne.symm hne)]; exact q2, q3, q4⟩
  have rest : wpAny (model prog w) A (do
      let b ← isType (.ref a)
      if b = true then do
        let e ← holding [.ref a] (raisedFor (.ref a) (.ref a))
        setFlight e none
        raiseNew e
      else do
        let e ← raisedInstance (.ref a)
        setFlight e none
        raiseNew e : Sem Flow) Q E { s₁ with heap := causeAt s₁.heap a (.ref x1) } := by
    refine wpAny_bind (not_type (s := { s₁ with heap := causeAt s₁.heap a (.ref x1) }) ha4 hd4 ?_)
    simp only [Bool.false_eq_true, if_false]
    unfold raisedInstance
    refine wpAny_bind (wpAny_bind (LT4.here (wpAny_bind (L3.here ?_))))
    rw [if_pos (beq_self_eq_true _)]
    refine wpAny_pure ?_
    unfold setFlight
    refine wpAny_bind (wpAny_bind (wpAny_field ha4 hd4 h14 ?_))
    rw [if_neg (by decide)]
    refine wpAny_pure ?_
    exact raiseNew_hot hot4 hne ha4 hd4 s2 hE
  refine wpAny_bind (wpAny_holding (hc _ (wpAny_bind (wpAny_pure ?_))))
  dsimp only
  refine wpAny_bind (wpAny_holding (is_exc ha hd L1 ?_))
  have cn : ¬ ((Value.ref x1 == Value.none) = true) := by simp
  rw [if_neg cn]
  have both : wpAny (model prog w) A (setField (.ref a) 3 (.ref x1)) (fun _ s5 => wpAny (model prog w) A (setField (.ref a) 4 (.bool true)) (fun _ s6 => wpAny (model prog w) A (do
      let b ← isType (.ref a)
      if b = true then do
        let e ← holding [.ref a] (raisedFor (.ref a) (.ref a))
        setFlight e none
        raiseNew e
      else do
        let e ← raisedInstance (.ref a)
        setFlight e none
        raiseNew e : Sem Flow) Q E s6) E s5) E s₁ := wpAny_setField ha hd s3 (wpAny_setField ha3 hd3 s4 rest)
  first
  | exact wpAny_bind (wpAny_holding (is_exc hx hdx L0 (wpAny_bind (wpAny_mono both (fun _ _ q => wpAny_bind q) fun _ _ z => z))))
  | exact wpAny_bind (wpAny_holding (is_exc hx hdx L0 (wpAny_bind (wpAny_bind (wpAny_mono both (fun _ _ q => q) fun _ _ z => z)))))
  | exact wpAny_bind (wpAny_bind (wpAny_holding (is_exc hx hdx L0 (wpAny_bind (wpAny_mono both (fun _ _ q => q) fun _ _ z => z)))))
end
section
open Er PySem.HandSPX
/-- a made error of one argument, all its fields told -/
structure OwnF (h h' : Heap) (e C d : Addr) (f : Str) (v : Value) : Prop where
  keep : ∀ b o, h.get? b = some o → h'.get? b = some o
  new : h.objs.size ≤ e
  obj : ∃ t1, h'.get? e = some { cls := .ref C, dict := some d, data := .fields #[.ref t1, .none, .none, .none, .bool false, .none] }
  big : h.objs.size ≤ d
  ne : d ≠ e
  ns : h'.Ns1 d (fun y => if y = f then some v else none)
theorem made1F {prog : Program} {w : World} {A : Around} {R : Result → Shared → Prop} {s : Shared} {K : PySem.W.Frag} {mg mb : Str → Option Value} {C fI : Addr} {nm f : Str} {p1 p2 a b c d e a' b' c' d' : Pos} {me : Expr} {v : Value}
    (T : Cls1 prog K mg nm C fI (args1 f p1 p2) [supS me a b c d e, keepS f a' b' c' d'] (scope1 f)) (X : K.In s.heap) (hg : s.heap.Ns mainGlobals mg) (hb : s.heap.Ns builtinsNs mb) (hbb : ∀ z : Str, z ≠ "__name__" → mb z = bootBuiltins z)
    (hlim : s.heap.NoLimit) (hroom : A.depth + 1 < recursionLimit) (hM : Msg me f v (scope1 f)) (hcdp : (c.endLine == d.line) = true) (hF : Fld f) (noN : PySem.W.findIn K (.ref C) f = some none)
    (hq : ∀ h' tk x dx, OwnF s.heap h' x C dx f v → R (.ok (.ret (.ref x))) { s with heap := h', toks := tk }) : codeAny (model prog w) A (.call (.ref C) ⟨[v], []⟩) R s := by
  obtain ⟨n, q, N, bs, bm, sn, sub, ab, col, dd, k0, k1, k2, k3, k5, hC, hbm⟩ := T.cls
  obtain ⟨hp, g, dr, tk, os⟩ := s
  have k : ∀ b o, hp.get? b = some o → ((hp.push (PySem.W.kdv_tup [v])).push (excO C hp.objs.size)).get? b = some o := fun b o z => Heap.get?_push_of_some _ (Heap.get?_push_of_some _ z)
  have hget : ((hp.push (PySem.W.kdv_tup [v])).push (excO C hp.objs.size)).get? (hp.objs.size + 1) = some (excO C hp.objs.size) := by heap_get
  refine call_own PySem.F.excBase_ValueError (fun Y => refsVE_contains Y bm hbm) (X _ _ hC) (PySem.W.looks_findIn X T.iC) (fun self => PySem.W.bind_fn X self T.tC) (size1 v) ?_
  refine init1 (mb := mb) (s := ⟨(hp.push (PySem.W.kdv_tup [v])).push (excO C hp.objs.size), g, dr, tk, os⟩) T (X.keeps k) (hg.keeps k) (hb.keeps k) hbb (hlim.keeps k) hget (fresh_of X (Nat.le_succ _)) hroom hM hcdp hF noN fun h' tk' dx Z => ?_
  have old : ∀ b o, hp.get? b = some o → h'.get? b = some o := fun b o z => Z.keep b o (Nat.ne_of_lt (Nat.lt_succ_of_lt (Heap.lt_size z))) (k b o z)
  have z : hp.objs.size + 1 + 1 ≤ dx := by
    have q := Z.big
    rw [Heap.size_push, Heap.size_push] at q
    exact q
  exact ⟨rfl, hq h' tk' (hp.objs.size + 1) dx ⟨old, Nat.le_succ _, Z.obj, Nat.le_trans (Nat.le_trans (Nat.le_succ _) (Nat.le_succ _)) z, Z.ne, Z.ns⟩⟩
theorem pmk1H {X : Cx} {C fI : Addr} {nm f : Str} {me : Expr} {p1 p2 a b c d e a' b' c' d' : Pos} {x : Expr} {ta : TA} {p pos : Pos} {k : Nat} (T : Cls1 X.prog X.K X.mg nm C fI (args1 f p1 p2) [supS me a b c d e, keepS f a' b' c' d'] (scope1 f)) (hcdp : (c.endLine == d.line) = true) (hF : Fld f) (noN : PySem.W.findIn X.K (.ref C) f = some none) (hr : L2H.RoomH k X.A) (ha : PA X [x] ta) (hg : Gl X nm) (hdb : (nm == ("__debug__" : Str)) = false)
    (he : starEach (x :: []) X.env = (false, eval x X.env) :: starEach [] X.env := by rfl) (hpl : (backTo pos (starEach [] X.env)).any (·.1) = false := by rfl) :
    L2H.PMk5 X (.Call (.Name nm p) [x] [] pos) (tMk1 C f me ta) := by
  intro pins s σ H Q I h
  refine wpAny_Call_Name_kw (ld_glob I hg T.gC ?_ hdb)
  refine PySem.W.callWith_K (h₀ := X.base) I.ok.mod.kin T.kC (thn (ha.run pos pins s σ H _ I h) fun us s1 hh => ?_) he hpl
  obtain ⟨vs, H1, I1, r1, v, ev, hM, q1⟩ := hh
  subst ev
  refine ⟨I1.kIn, ?_⟩
  cases r1 with
  | cons rv rn =>
    rename_i v' us'
    cases rn
    show wpAny _ _ (call (.ref C) [v']) _ _ _
    have hlim := I1.nolimit
    obtain ⟨mb, hb1, hb2⟩ := I1.mod.blt
    have hgl := I1.mod.glob.keeps I1.bk
    have hbl := hb1.keeps I1.bk
    obtain ⟨hp, g, dr, tk, os⟩ := s1
    refine wpAny_call (made1F (mb := mb) T I1.kIn hgl hbl hb2 hlim (by have := hr.dp; omega) (hM v' rv) hcdp hF noN fun h' tk' e d M => ?_)
    obtain ⟨t1, hoe⟩ := M.obj
    have hns := M.ns
    obtain ⟨G', g1, g2⟩ := restrict h' fun b => decide (b ≠ e)
    have gk : ∀ b, b ≠ e → G'.get? b = h'.get? b := fun b hb => g1 b (decide_eq_true hb)
    have ge : G'.get? e = none := g2 e (by simp)
    have old : ∀ b o, hp.get? b = some o → G'.get? b = some o := fun b o q => (gk b (Nat.ne_of_lt (Nat.lt_of_lt_of_le (Heap.lt_size q) M.new))).trans (M.keep b o q)
    have ob : ObjOk X.prog X.w (upd H1 d (.xd [(f, v)])) G' d (.xd [(f, v)]) :=
      ⟨_, hns.at (fun o q => (gk d M.ne).trans q), fun g => relO_f1 rv f g⟩
    have J : Inv X pins σ (upd H1 d (.xd [(f, v)])) ⟨G', g, dr, tk', os⟩ := I1.laid (t' := tk') old M.big ob
    refine ⟨⟨e, _, _, ⟨G', g, dr, tk', os⟩, _, .ref C, some d, rfl, J, fun b o q => ?_, ge, hoe, ⟨rfl, rfl, fun vs' e' => ?_⟩, rfl, rfl, ?_, rfl, I1.bare, raises_own T.exC T.tyC, q1 d (I1.hok.fresh M.big)⟩, fun a2 o2 v2 ea2 hg2 hd2 => ?_⟩
    · by_cases hb : b = e
      · have q' : G'.get? b = some o := q
        rw [hb, ge] at q'
        cases q'
      · exact (gk b hb).symm.trans q
    · cases e'
      rfl
    · rw [upd_ne (Ne.symm M.ne)]
      exact I1.hok.fresh M.new
    · cases ea2
      have hg3 : h'.get? e = some o2 := hg2
      rw [hoe] at hg3
      cases hg3
      cases hd2
      show (4 : Nat) < 6
      decide
theorem ps_raiseHF {X : Cx} {W : WX} {e : Expr} {t : L2.St → Hp → XK → Prop} {n : Str} {i : Nat} {np pos : Pos} {a : Addr} {oe : Obj} {cls : Value} {d : Option Addr} (hz : L2N.Zn cls d oe) (hfld : ∃ vs, oe.data = .fields vs) (hh : X.A.handled = some (.ref a)) (hp : (a, oe) ∈ X.pn)
    (hi : X.N[i]? = some n) (hl : X.env.kindOf n = some .local) (hdb : (n == ("__debug__" : Str)) = false) (tk : L2.Takes X W) (he : L2H.PMk5 X e t) :
    PS X (.Raise (some e) (some (.Name n np)) pos) (fun _ σ H => σ[i]? = some (some (.ref a)) ∧ PySem.W.subIn X.K cls (.type "BaseException") = some true ∧ t σ H fun cls d H' => W cls d σ H') := by
  refine ⟨fun pins s σ H D I h => ?_⟩
  obtain ⟨hσ, hsub, h⟩ := h
  obtain ⟨ve, hve⟩ := hfld
  show wpAny _ _ (do standAt pos; raiseStmt X.env (some (do let v ← eval e X.env; standAt pos; pure v)) (some (do let v ← eval (.Name n np) X.env; standAt pos; pure v))) _ _ _
  refine wpAny_bind (wpAny_standAt (raise_made_hotF (x1 := a) (wpAny_bind (wpAny_mono (he pins s σ H _ I h) (fun u s1 hu => wpAny_bind (wpAny_standAt (wpAny_pure ?_))) fun _ _ x => x))))
  obtain ⟨⟨a2, o2, vs, sI, H', cls2, d2, rfl, J, k, hne, ha, hz2, hd, h1, na, os, ag, r, q⟩, h5⟩ := hu
  have hi4 : 4 < vs.size := h5 a2 o2 vs rfl ha hd
  have P1 := (J.pin (a, oe) (List.mem_append_left _ hp)).1
  have nap : a ≠ a2 := fun z => by
    rw [← z] at hne
    rw [hne] at P1
    cases P1
  have k4 : ∀ b u, sI.heap.get? b = some u → (causeAt s1.heap a2 (.ref a)).get? b = some u := fun b u z => by
    have nab : a2 ≠ b := fun y => by
      rw [← y, hne] at z
      cases z
    rw [causeAt_other nab]
    exact k b u z
  obtain ⟨r1, _⟩ := r (model X.prog X.w) s1.heap (J.kIn.keeps k)
  obtain ⟨_, r2⟩ := r (model X.prog X.w) (causeAt s1.heap a2 (.ref a)) (J.kIn.keeps k4)
  obtain ⟨ha4, hd4⟩ := causeAt_at (c := .ref a) ha hd
  have h12 : (((vs.setIfInBounds 3 (Value.ref a)).setIfInBounds 4 (Value.bool true)).setIfInBounds 2 (Value.ref a))[1]? = some Value.none := set_other (by decide) (set_other (by decide) (set_other (by decide) h1))
  obtain ⟨m, hn, look⟩ := J.loc
  obtain ⟨u, ru, qu⟩ := look i n (.ref a) hi hσ (.inl hl)
  have eu : u = .ref a := ru
  subst eu
  have hmn : m n = some (.ref a) := by
    rcases qu with ⟨_, e1⟩ | ⟨k1 | k1, _⟩
    · exact e1
    · rw [hl] at k1
      cases k1
    · rw [hl] at k1
      cases k1
  have hn1 : s1.heap.Ns X.env.locals m := hn.keeps k
  refine ⟨a2, o2, vs, oe, ve, rfl, ha, hd, h1, hi4, nap, ⟨hh, oe, ve, k _ _ P1, hve, hz.2.2 ve hve⟩, k _ _ P1, hve, fun Q' q' => wpAny_bind (Er.ldL hn1 hmn J.ok.kind hl hdb (wpAny_bind (wpAny_standAt (wpAny_pure q')))), ?_, ?_, ?_, tk _ _ (XE.new J (fun b u z => ?_) hne (Heap.get?_update_self _ ha4 (Obj.isFreed_of_fields (Obj.data_mapFields hd4 _)))
    ⟨by rw [Obj.cls_mapFields, Obj.cls_mapFields, Obj.cls_mapFields]; exact hz2.1, by rw [HandSPX.dict_mapFields, HandSPX.dict_mapFields, HandSPX.dict_mapFields]; exact hz2.2.1⟩ (Obj.data_mapFields hd4 _) h12 na os ag q)⟩
  · rw [hz.1]
    exact PySem.W.looks_subIn (J.kIn.keeps k) hsub
  · rw [hz2.1]
    exact r1
  · rw [hz2.1]
    exact r2
  · have nab : a2 ≠ b := fun y => by
      rw [← y, hne] at z
      cases z
    show ((causeAt s1.heap a2 (.ref a)).update a2 (Obj.mapFields (·.setIfInBounds 2 (.ref a)))).get? b = some u
    rw [Heap.get?_update_other _ _ nab]
    exact k4 b u z
end
/-! ### defs that are called while any exception is handled, whatever its context: they raise nothing, not even within -/
section
open L2H
structure FnC (P : Program) (w : World) (K : PySem.W.Frag) (mg : Str → Option Value) (base : Heap) (CX : CXT) (k : Nat) (f : Addr) (fd : FuncData) (ps : List Str) (sp : Sp) : Prop where
  len : ∀ vs H Q E, sp vs H Q E → vs.length = ps.length
  run : ∀ (A : Around) (outer : List Env) (s : Shared) (H : Hp) (args : Args) (us : List Value) (vs : List V) (Q : VK) (E : XK) (p : Addr × Obj), RoomH k A → PinOk outer H s p → Env0 P w K mg base A outer s H → BindsTo s fd args (ps.zip us) → Vals vs us → sp vs H Q E →
    codeAny (model P w) A (.call (.ref f) args) (CR CX outer P w H s Q E) s
theorem fn_ofC {CX : CXT} {P : Program} {w : World} {K : PySem.W.Frag} {mg : Str → Option Value} {base : Heap} {k : Nat} {f : Addr} {name qual : Str} {params : Arguments} {body : List Stmt} {scope : Scope} {dV kV doc pm cdv ct oc : Value} {an od : Option Addr}
    {osl : Array (Option Value)} {N ps : List Str} {sp : Sp} (lk : K.lookup f = some ⟨oc, od, .func (PySem.W.fnOf name qual params body scope dV kV doc pm an cdv ct), osl⟩) (hcd : PySem.W.codeIn K cdv qual = true) (S : FnScope N ps scope)
    (len : ∀ vs H Q E, sp vs H Q E → vs.length = ps.length)
    (hbody : ∀ (A : Around) (outer : List Env) (s : Shared) (H : Hp) (vs : List V) (Q : VK) (E : XK) (p : Addr × Obj), RoomH k (A.deeper (envOfC qual scope s.heap.objs.size f cdv)) → sp vs H Q E →
      ∃ t, PSs (cxH CX P w K mg base N qual scope f cdv A outer s H E p) body t ∧ t { nx := fun _ H' => Q .non H', rt := Q } (L2.start N vs) H) :
    FnC P w K mg base CX (k + 1) f (PySem.W.fnOf name qual params body scope dV kV doc pm an cdv ct) ps sp := by
  refine ⟨len, fun A outer s H args us vs Q E p hr hpin e0 hb r hsp => ?_⟩
  have hl := len _ _ _ _ hsp
  have KX : K.In s.heap := e0.mod.kin.keeps fun b o e => (e0.bs b o e).1
  have lim : s.heap.NoLimit := e0.mod.nolimit.keeps fun b o e => (e0.bs b o e).1
  have hkind : ∀ y ∈ ps.zip us, scope.names.lookup y.1 = some .local ∨ (scope.names.lookup y.1 = some .cell ∧ ((cellsFrom (s.heap.objs.size + 1) scope.names []).lookup y.1).isSome = true) := fun ⟨n, v⟩ hy => by
    rcases S.par n (List.of_mem_zip hy).1 with q | q
    · exact .inl q
    · exact .inr ⟨q, PySem.W.cellsFrom_some _ _ _ (.inl q)⟩
  refine codeAny_call_function hr.depth (KX _ _ lk) rfl S.co S.gen rfl (PySem.W.codeRec_of KX hcd) (hb _ _ _ _ ?_)
  refine wpAny_newFunctionEnv_cells S.kind hkind fun env he s1 x => ?_
  subst he
  refine ⟨lim.keeps x.toInCall.keep, codeAny_func ?_⟩
  obtain ⟨t, ht, hq⟩ := hbody A outer s H vs Q E p (hr.deeper _) hsp
  have I : Inv (cxH CX P w K mg base N qual scope f cdv A outer s H E p) [] (L2.start N vs) H s1 := inv_startH S hpin e0 hl r x
  refine wpAny_mono (ht.run [] s1 (L2.start N vs) H _ I hq) (fun fl s' hs => ?_) fun e s' hs => hs
  match fl, hs with
  | .ret u, ⟨v, σ', H', J, rv, q⟩ => exact ⟨v, H', J.os, J.bare, J.base, J.hok, rv, q⟩
  | .next, ⟨σ', H', J, q⟩ => exact ⟨V.non, H', J.os, J.bare, J.base, J.hok, rfl, q⟩
  | .brk, ⟨_, _, _, q⟩ => exact False.elim q
  | .cont, ⟨_, _, _, q⟩ => exact False.elim q
theorem _root_.L2.Fun.okC {P : Program} {w : World} {K : PySem.W.Frag} {mg : Str → Option Value} {base : Heap} {CX : CXT} {x qual : Str} {st : Stmt} {f : Addr} {fd : FuncData} {N ps : List Str} {k : Nat} {sp : Sp} (F : Fun K x qual st f fd) (S : FnScope N ps (defScope st)) (len : ∀ vs H Q E, sp vs H Q E → vs.length = ps.length)
    (hbody : ∀ (cdv : Value) (A : Around) (outer : List Env) (s : Shared) (H : Hp) (vs : List V) (Q : VK) (E : XK) (p : Addr × Obj), RoomH k (A.deeper (envOfC qual (defScope st) s.heap.objs.size f cdv)) → sp vs H Q E →
      ∃ t, PSs (cxH CX P w K mg base N qual (defScope st) f cdv A outer s H E p) (defBody st) t ∧ t { nx := fun _ H' => Q .non H', rt := Q } (L2.start N vs) H) : FnC P w K mg base CX (k + 1) f fd ps sp := by
  obtain ⟨oc, od, kV, doc, pm, an, cdv, ct, osl, rfl, lk, hcd⟩ := F.ex
  exact fn_ofC lk hcd S len fun A outer s H vs Q E p hr hsp => hbody cdv A outer s H vs Q E p hr hsp
theorem pe_callC {X : Cx} {CX : CXT} {k : Nat} {f : Addr} {fd : FuncData} {ps : List Str} {sp : Sp} {E : L2.St → XK} {x : Str} {q pos : Pos} {e : Expr} {es : List Expr} {t : TA} {p : Addr × Obj} (F : FnC X.prog X.w X.K X.mg X.base CX k f fd ps sp) (hr : RoomH k X.A) (hp : p ∈ X.pn) (hg : Gl X x) (hm : X.mg x = some (.ref f)) (hk : PySem.W.keepIn X.K (.ref f) = true) (hb : Binds X.K fd ps []) (hx : ∀ σ, PassesAt CX X σ (E σ))
    (ha : PA X (e :: es) t) (hdb : (x == ("__debug__" : Str)) = false := by decide) (he : starEach (e :: es) X.env = (false, eval e X.env) :: starEach es X.env := by rfl) (hpl : (backTo pos (starEach es X.env)).any (·.1) = false := by rfl) :
    PE X (.Call (.Name x q) (e :: es) [] pos) (tCallS sp E t) := by
  refine ⟨fun pins s σ H Q I h => ?_⟩
  refine wpAny_Call_Name_kw (ld_glob I hg hm ?_ hdb)
  refine PySem.W.callWith_K (h₀ := X.base) I.ok.mod.kin hk (thn (ha.run pos pins s σ H _ I h) fun us s1 ⟨vs, H1, I1, r, hs⟩ => ⟨I1.kIn, ?_⟩) he hpl
  have hl : us.length = ps.length := by rw [← r.length]; exact F.len _ _ _ _ hs
  have b := hb s1 us I1.kIn (by rw [List.append_nil]; exact hl)
  rw [List.append_nil] at b
  have P1 := I1.pin p (List.mem_append_left _ hp)
  have hpin : PinOk X.stack H1 s1 p := ⟨P1.1, P1.2.1, fun hm => (List.mem_cons.mp (I1.stkSub p.1 hm)).elim P1.2.2.1 P1.2.2.2.1, P1.2.2.2.2⟩
  refine wpAny_call (codeAny_mono (F.run X.A X.stack s1 H1 ⟨us, []⟩ us vs Q (E σ) p hr hpin I1.env0 b r hs) fun r s' hq => ?_)
  cases r with
  | error e => exact hx σ pins H1 s1 e s' I1 hq
  | ok fl =>
    cases fl with
    | ret u => exact I1.after hq
    | next => exact False.elim hq
    | brk => exact False.elim hq
    | cont => exact False.elim hq
end
/-! ### C(*xs) in a try; defs that let out errors with a context -/
theorem pe_makeSS {X : Cx} {CX : CXT} {k : Nat} {f C : Addr} {sp : Sp} {E : L2.St → XK} {x : Str} {e : Expr} {te : TE} {p sp_ pos : Pos} (M : Mk X.K C f) (F : FnR X.prog X.w X.K X.mg X.base CX k f sp) (hr : Room (k + 1) X.A) (hg : Gl X x) (hm : X.mg x = some (.ref C)) (hx : ∀ σ, PassesAt CX X σ (E σ)) (he : PE X e te)
    (hd : (x == ("__debug__" : Str)) = false := by decide) (hst : starEach [.Starred e sp_] X.env = [(true, eval e X.env)] := by rfl) : PE X (.Call (.Name x p) [.Starred e sp_] [] pos) (tMakeSS X.K C sp E te) := by
  refine ⟨fun pins s σ H Q I h => ?_⟩
  refine wpAny_Call_Name_kw (ld_glob I hg hm ?_ hd)
  refine PySem.W.callWith_S (h₀ := X.base) I.ok.mod.kin M.kp (thn (he.run pins s σ H _ I h) fun v s1 ⟨y, H1, I1, ry, a, xs, ey, hxs, q⟩ => ?_) hst
  subst ey
  obtain rfl : v = Value.ref a := ry
  exact StX.star_any I1 hxs fun us s2 I2 rv => ⟨I2.kIn, run_makeRAt M F hr (hx σ) I2 rv q⟩
theorem _root_.L2.Fun.okL {P : Program} {w : World} {K : PySem.W.Frag} {mg : Str → Option Value} {base : Heap} {x qual : Str} {st : Stmt} {f : Addr} {fd : FuncData} {N ps : List Str} {k : Nat} {sp : Sp} (F : Fun K x qual st f fd) (S : FnScope N ps (defScope st)) (len : ∀ vs H Q E, sp vs H Q E → vs.length = ps.length)
    (hbody : ∀ (cdv : Value) (A : Around) (outer : List Env) (s : Shared) (H : Hp) (vs : List V) (Q : VK) (E : XK), Room k (A.deeper (envOfC qual (defScope st) s.heap.objs.size f cdv)) → sp vs H Q E →
      ∃ t, PSs (cxOf (L2.CX P w) P w K mg base N qual (defScope st) f cdv A outer s H E) (defBody st) t ∧ t { nx := fun _ H' => Q .non H', rt := Q } (start N vs) H) : FnOk P w K mg base (L2.CX P w) (k + 1) f fd ps sp := by
  obtain ⟨oc, od, kV, doc, pm, an, cdv, ct, osl, rfl, lk, hcd⟩ := F.ex
  exact fn_of lk hcd S len fun A outer s H vs Q E hr hsp => hbody cdv A outer s H vs Q E hr hsp
theorem pmk_up {X : Cx} {e : Expr} {t : L2.St → Hp → XK → Prop} (h : L2N.PMk X e t) : L2.PMk X e t := fun pins s σ H Q I q => thn (h pins s σ H Q I q) fun _ _ ⟨a, oe, vs, sI, H', cls, d, e1, J, k, hne, ha, hz, r⟩ => ⟨a, oe, vs, sI, H', cls, d, e1, J, k, hne, ha, hz.zc, r⟩
section
open Er
/-- f'c{f}e' of an int -/
theorem msg_cic {f : Str} {i : Int} {t : Tok} {c e : Str} {p q p1 p2 p3 : Pos} {k k2 : Nat} (hF : Fld f) (hc : c.length ≤ 1000) (hce : e.length ≤ 1000) (hz : i.natAbs.log2 < 1920) (hs : (toString i : Str).length ≤ 1000) :
    Msg (.JoinedStr [.Constant (.str c) k p1, .FormattedValue (.Name f p) (-1) none q, .Constant (.str e) k2 p3] p2) f (.int i t) (scope1 f) where
  call := fun env a b c' d e' => ⟨_, call_eq e' rfl⟩
  star := fun env => rfl
  swap := fun _ _ _ _ _ _ => rfl
  text := fun prog w A E env s m Q he hn hv h => by
    have z0 : (Str.empty ++ c).length ≤ 0 + 1000 := app_le (Nat.le_refl _) hc
    have z1 : (Str.empty ++ c ++ (toString i : Str)).length ≤ 0 + 1000 + 1000 := app_le z0 hs
    have z2 : (Str.empty ++ c ++ (toString i : Str) ++ e).length ≤ 0 + 1000 + 1000 + 1000 := app_le z1 hce
    have b0 : (3000 : Nat) ≤ sizeLine := by rw [sizeLine_eq]; decide
    refine wpAny_JoinedStr ?_
    refine wpAny_Constant_str ⟨c, _, rfl, Nat.le_trans z0 (Nat.le_trans (by decide) b0), ?_⟩
    refine part_i (sc := scope1 f) hF.kf rfl hF.dbg he (s := { s with toks := s.toks + 1 }) hn hv hz fun tk n => ⟨_, _, rfl, Nat.le_trans z1 (Nat.le_trans (by decide) b0), ?_⟩
    refine wpAny_Constant_str ⟨e, _, rfl, Nat.le_trans z2 b0, ?_⟩
    exact ⟨Nat.le_trans z2 b0, h _ _ _⟩
end
end L2R
/-! What a program's top has left, read by a Hook: facts of K as Bools, each def's object as data. -/
namespace Hk
open PySem PySem.Spec PyProof.Rows L2
/-- a def's object, as far as it can be told by data -/
abbrev FV : Type := Option (Str × Str × Arguments × FuncBody × Scope × Addr × List Str × Addr)
def fv (K : PySem.W.Frag) (a : Addr) : FV := match K.lookup a with
  | some ⟨_, _, .func fd, _⟩ => some (fd.name, fd.qualname, fd.params, fd.body, fd.scope, fd.globals, fd.closure.map (·.1), fd.builtins)
  | _ => none
def isNo : Value → Bool
  | .none => true
  | _ => false
theorem isNo_is {v : Value} (h : isNo v = true) : v = .none := by cases v <;> first | rfl | cases h
def fb (K : PySem.W.Frag) (a : Addr) (q : Str) : Bool := match K.lookup a with
  | some ⟨_, _, .func fd, _⟩ => PySem.W.codeIn K fd.code q && isNo fd.defaults
  | _ => false
theorem fb_get {K : PySem.W.Frag} {a : Addr} {x q : Str} {ps : Arguments} {body : List Stmt} {sc : Scope} (e : fv K a = some (x, q, ps, .stmts body, sc, mainGlobals, [], builtinsNs)) (c : fb K a q = true) :
    ∃ oc od osl kV doc pm an cdv ct, K.lookup a = some ⟨oc, od, .func (PySem.W.fnOf x q ps body sc .none kV doc pm an cdv ct), osl⟩ ∧ PySem.W.codeIn K cdv q = true := by
  unfold fv at e
  unfold fb at c
  cases lk : K.lookup a with
  | none => rw [lk] at e; cases e
  | some o =>
    obtain ⟨oc, od, dt, osl⟩ := o
    rw [lk] at e c
    cases dt with
    | func fd =>
      obtain ⟨n1, n2, n3, n4, n5, n6, n7, n8, n9, n10, n11, n12, n13, n14, n15⟩ := fd
      have e2 : (some (n1, n2, n3, n4, n5, n6, n7.map (·.1), n15) : FV) = some (x, q, ps, .stmts body, sc, mainGlobals, [], builtinsNs) := e
      simp only [Option.some.injEq, Prod.mk.injEq] at e2
      obtain ⟨h1, h2, h3, h4, h5, h6, h7, h8⟩ := e2
      have h7 := List.map_eq_nil_iff.mp h7
      subst h1 h2 h3 h4 h5 h6 h7 h8
      have c2 : (PySem.W.codeIn K n13 n2 && isNo n8) = true := c
      rw [Bool.and_eq_true] at c2
      have d0 := isNo_is c2.2
      subst d0
      exact ⟨oc, od, osl, n9, n10, n11, n12, n13, n14, rfl, c2.1⟩
    | _ => cases e
/-- the function within a property, a class method, a static method -/
def pa (K : PySem.W.Frag) (p : Addr) (kind : String) : Addr := match PySem.W.recIn K p kind with
  | some (.ref f :: _) => f
  | _ => 0
def pb (K : PySem.W.Frag) (p : Addr) (kind : String) : Bool := match PySem.W.recIn K p kind with
  | some (.ref _ :: _) => true
  | _ => false
theorem pb_get {K : PySem.W.Frag} {p : Addr} {kind : String} (c : pb K p kind = true) : ∃ r, PySem.W.recIn K p kind = some (.ref (pa K p kind) :: r) := by
  unfold pb at c
  unfold pa
  cases e : PySem.W.recIn K p kind with
  | none => rw [e] at c; cases c
  | some l =>
    rw [e] at c
    cases l with
    | nil => cases c
    | cons v r => cases v <;> first | exact ⟨r, rfl⟩ | cases c
/-- a class's attribute by a getter -/
def gb (K : PySem.W.Frag) (C : Addr) (m : Str) (g : String) (p : Addr) : Bool := match PySem.W.findCls K (.ref C) (.type "type") m with
  | some (.get (.builtin h) (.ref q) .none (.ref D)) => decide (h = g) && (decide (q = p) && decide (D = C))
  | _ => false
theorem gb_get {K : PySem.W.Frag} {C p : Addr} {m : Str} {g : String} (c : gb K C m g p = true) : PySem.W.findCls K (.ref C) (.type "type") m = some (.get (.builtin g) (.ref p) .none (.ref C)) := by
  unfold gb at c
  split at c
  · rename_i h q D e
    rw [Bool.and_eq_true, Bool.and_eq_true] at c
    rw [e, of_decide_eq_true c.1, of_decide_eq_true c.2.1, of_decide_eq_true c.2.2]
  · cases c
/-- a class's constant -/
def ib (K : PySem.W.Frag) (C : Addr) (m : Str) (i : Int) : Bool := match PySem.W.findCls K (.ref C) (.type "type") m with
  | some (.val (.int j _)) => decide (j = i)
  | _ => false
theorem ib_get {K : PySem.W.Frag} {C : Addr} {m : Str} {i : Int} (c : ib K C m i = true) : ∃ t, PySem.W.findCls K (.ref C) (.type "type") m = some (.val (.int i t)) := by
  unfold ib at c
  split at c
  · rename_i j t e
    exact ⟨t, by rw [e, of_decide_eq_true c]⟩
  · cases c
/-- a name of the module that is a text, a number -/
def sb (K : PySem.W.Frag) (x z : Str) : Bool := match PySem.W.nsIn K mainGlobals x with
  | some (some (.str y _)) => decide (y = z)
  | _ => false
theorem sb_get {K : PySem.W.Frag} {x z : Str} (c : sb K x z = true) : ∃ t, PySem.W.nsIn K mainGlobals x = some (some (.str z t)) := by
  unfold sb at c
  split at c
  · rename_i y t e
    exact ⟨t, by rw [e, of_decide_eq_true c]⟩
  · cases c
def nb (K : PySem.W.Frag) (x : Str) (i : Int) : Bool := match PySem.W.nsIn K mainGlobals x with
  | some (some (.int j _)) => decide (j = i)
  | _ => false
theorem nb_get {K : PySem.W.Frag} {x : Str} {i : Int} (c : nb K x i = true) : ∃ t, PySem.W.nsIn K mainGlobals x = some (some (.int i t)) := by
  unfold nb at c
  split at c
  · rename_i j t e
    exact ⟨t, by rw [e, of_decide_eq_true c]⟩
  · cases c
/-- an own error class -/
def eb (K : PySem.W.Frag) (C : Addr) : Bool := match K.lookup C with
  | some ⟨.type t, _, .cls cd, sl⟩ => (match cd.mro, sl.toList with
    | .ref D :: bm, [_, _, _, _, some (.builtin n), _] => decide (t = "type") && (decide (D = C) && (decide (n = "ValueError.__new__") && (!cd.hasDel && (cd.hasDict && PySem.HandSPX.refsVE bm))))
    | _, _ => false)
  | _ => false
theorem eb_get {K : PySem.W.Frag} {C : Addr} (c : eb K C = true) : ∃ (n q : Str) (N : Addr) (bs bm : List Value) (sn : List Str) (sub : List Value) (ab : Bool) (col : Option Bool) (dd : Option Addr) (w0 w1 w2 w3 w5 : Option Value),
    K.lookup C = some (excClassObj n q C N bs bm true sn sub ab col dd w0 w1 w2 w3 w5 "ValueError.__new__") ∧ PySem.HandSPX.refsVE bm = true := by
  unfold eb at c
  split at c
  · rename_i t dd cd sl lk
    split at c
    · rename_i D bm k0 k1 k2 k3 n k5 em es
      simp only [Bool.and_eq_true, decide_eq_true_eq, Bool.not_eq_true'] at c
      obtain ⟨h1, h2, h3, h4, h5, h6⟩ := c
      obtain ⟨m1, m2, m3, m4, m5, m6, m7, m8, m9, m10, m11⟩ := cd
      dsimp only at em h4 h5
      subst h1 h2 h3 h4 h5 em
      have e2 : sl = #[k0, k1, k2, k3, some (.builtin "ValueError.__new__"), k5] := by
        rw [← es]
      subst e2
      exact ⟨_, _, _, _, _, _, _, _, _, _, _, _, _, _, _, lk, h6⟩
    · cases c
  · cases c
/-- its __init__ -/
def eib (K : PySem.W.Frag) (a C : Addr) (q file : Str) : Bool := match K.lookup a with
  | some ⟨_, _, .func fd, _⟩ => (match fd.code, fd.closure with
    | .ref d, [(x, cc)] => PySem.W.codeIn K (.ref d) q && (isNo fd.defaults && (isNo fd.kwdefaults && ((match K.lookup d with
      | some ⟨_, _, .fields vs, _⟩ => (match (vs[2]? : Option Value) with
        | some (.str f _) => file == f
        | _ => false)
      | _ => false) && (match K.lookup cc with
      | some ⟨_, _, .cell (some (.ref D)), _⟩ => decide (D = C)
      | _ => false))))
    | _, _ => false)
  | _ => false
theorem eib_get {K : PySem.W.Frag} {a C : Addr} {x q file : Str} {ps : Arguments} {body : List Stmt} {sc : Scope} (e : fv K a = some (x, q, ps, FuncBody.stmts body, sc, mainGlobals, [Str.ofString "__class__"], builtinsNs)) (c : eib K a C q file = true) :
    ∃ oc od doc pm an cda ct cc osl, K.lookup a = some ⟨oc, od, .func (PySem.W.ksFn x q ps body sc .none .none doc pm an (.ref cda) ct cc), osl⟩ ∧ PySem.W.codeIn K (.ref cda) q = true ∧
      ∃ ccl cdd vs ccs f tf, K.lookup cda = some ⟨ccl, cdd, .fields vs, ccs⟩ ∧ vs[2]? = some (.str f tf) ∧ (file == f) = true ∧ ∃ cl cld csl, K.lookup cc = some ⟨cl, cld, .cell (some (.ref C)), csl⟩ := by
  unfold fv at e
  unfold eib at c
  cases lk : K.lookup a with
  | none => rw [lk] at e; cases e
  | some o =>
    obtain ⟨oc, od, dt, osl⟩ := o
    rw [lk] at e c
    cases dt with
    | func fd =>
      obtain ⟨n1, n2, n3, n4, n5, n6, n7, n8, n9, n10, n11, n12, n13, n14, n15⟩ := fd
      have e2 : (some (n1, n2, n3, n4, n5, n6, n7.map (·.1), n15) : FV) = some (x, q, ps, FuncBody.stmts body, sc, mainGlobals, [Str.ofString "__class__"], builtinsNs) := e
      simp only [Option.some.injEq, Prod.mk.injEq] at e2
      obtain ⟨h1, h2, h3, h4, h5, h6, h7, h8⟩ := e2
      dsimp only at c
      cases n7 with
      | nil => cases h7
      | cons y r =>
        cases r with
        | cons _ _ => exact absurd (congrArg List.length h7) (by simp)
        | nil =>
          obtain ⟨y1, cc⟩ := y
          obtain rfl : y1 = Str.ofString "__class__" := by
            have z : [y1] = [Str.ofString "__class__"] := h7
            injection z
          cases n13 with
          | ref d =>
            dsimp only at c
            simp only [Bool.and_eq_true] at c
            obtain ⟨c1, c2, c3, c4, c5⟩ := c
            have d8 := isNo_is c2
            have d9 := isNo_is c3
            subst h1 h2 h3 h4 h5 h6 h8 d8 d9
            split at c4
            · rename_i ccl cdd vs ccs lk2
              split at c4
              · rename_i f tf ev
                split at c5
                · rename_i cl cld D csl lk3
                  obtain rfl : D = C := of_decide_eq_true c5
                  exact ⟨oc, od, n10, n11, n12, d, n14, cc, osl, rfl, c1, ccl, cdd, vs, ccs, f, tf, lk2, ev, c4, cl, cld, csl, lk3⟩
                · cases c5
              · cases c4
            · cases c4
          | _ => cases c
    | _ => cases e
/-! ### the Hook -/
/-- what an object names that a fact may ask for: no code object's fields, no cell's content -/
def nx (g : Addr → Option Obj) (a : Addr) : List Addr := match g a with
  | some ⟨c, _, dt, _⟩ => (match dt with
    | .dict es _ => es.toList.flatMap fun e => He.refV e.val
    | .func fd => He.refV fd.code ++ fd.closure.map (·.2)
    | .cls cd => [cd.ns]
    | .fields vs => (match c with
      | .type t => if t = "property" then vs.toList.flatMap He.refV else if t = "classmethod" then vs.toList.flatMap He.refV else if t = "staticmethod" then vs.toList.flatMap He.refV else []
      | _ => [])
    | _ => [])
  | none => []
def nxs (g : Addr → Option Obj) (as : List Addr) : Nat → List Addr
  | 0 => as
  | n + 1 => as ++ nxs g (as.flatMap (nx g)) n
def frag (n : Nat) (g : Addr → Option Obj) : PySem.W.Frag := He.frG g (cStatics :: nxs g [mainGlobals] n)
abbrev Al : Type := Bool × List FV
def ob (n : Nat) (ex : PySem.W.Frag → Bool) (ats : PySem.W.Frag → List Addr) (g : Addr → Option Obj) : Al := (ex (frag n g), (ats (frag n g)).map (fv (frag n g)))
structure Says (ex : PySem.W.Frag → Bool) (ats : PySem.W.Frag → List Addr) (vals : List FV) (K : PySem.W.Frag) : Prop where
  ex : ex K = true
  fn : (ats K).map (fv K) = vals
def hook (n : Nat) (ex : PySem.W.Frag → Bool) (ats : PySem.W.Frag → List Addr) (vals : List FV) : PySem.W.Hook where
  α := Al
  obs := fun s => ob n ex ats s.heap.get?
  val := fun _ => (true, vals)
  says := fun _ h => ∃ K : PySem.W.Frag, K.In h ∧ Says ex ats vals K
  of := fun _ _ e => ⟨_, He.frG_in, ⟨congrArg (fun z : Al => z.1) e, congrArg (fun z : Al => z.2) e⟩⟩
  keeps := fun _ _ _ ⟨K, hK, c⟩ k => ⟨K, PySem.W.Frag.In.keeps hK k, c⟩
theorem ob_eq {n : Nat} {ex : PySem.W.Frag → Bool} {ats : PySem.W.Frag → List Addr} {vals : List FV} (s : PySem.W.SharedT) : ob n ex ats (HandSHeadRun.getT s) = (hook n ex ats vals).obs s.abs := by
  have e : HandSHeadRun.getT s = s.abs.heap.get? := funext fun a => HandSHeadRun.getT_eq s a
  rw [e] <;> rfl
theorem Says.at_ {ex : PySem.W.Frag → Bool} {ats : PySem.W.Frag → List Addr} {vals : List FV} {K : PySem.W.Frag} (c : Says ex ats vals K) (i : Nat) {a : Addr} {v : FV} (h1 : (ats K)[i]? = some a) (h2 : vals[i]? = some v) : fv K a = v := by
  have e : ((ats K).map (fv K))[i]? = vals[i]? := by rw [c.fn]
  rw [List.getElem?_map, h1, h2] at e
  exact Option.some.inj e
end Hk
namespace Hk21
open PySem PySem.Spec PyProof.Rows L2 Er
def topS (i : Nat) : Stmt := PySem.Challenge.pw_renamedhorn_k21_bad_book_texts.main.body.getD i (.Pass ⟨0, 0, 0, 0⟩)
abbrev s_is_name : Stmt := (topS 13)
abbrev N_is_name : List Str := ["text", "sign"]
theorem sc_is_name : FnScope N_is_name ["text"] (defScope s_is_name) := ⟨rfl, rfl, rfl, by decide +kernel, rfl, by decide +kernel, by decide +kernel⟩
abbrev s_is_literal : Stmt := (topS 14)
abbrev N_is_literal : List Str := ["text"]
theorem sc_is_literal : FnScope N_is_literal ["text"] (defScope s_is_literal) := ⟨rfl, rfl, rfl, by decide +kernel, rfl, by decide +kernel, by decide +kernel⟩
abbrev s_check_literal : Stmt := (topS 15)
abbrev N_check_literal : List Str := ["text"]
theorem sc_check_literal : FnScope N_check_literal ["text"] (defScope s_check_literal) := ⟨rfl, rfl, rfl, by decide +kernel, rfl, by decide +kernel, by decide +kernel⟩
abbrev s_name_of : Stmt := (topS 16)
abbrev N_name_of : List Str := ["literal"]
theorem sc_name_of : FnScope N_name_of ["literal"] (defScope s_name_of) := ⟨rfl, rfl, rfl, by decide +kernel, rfl, by decide +kernel, by decide +kernel⟩
abbrev s_is_positive : Stmt := (topS 17)
abbrev N_is_positive : List Str := ["literal"]
theorem sc_is_positive : FnScope N_is_positive ["literal"] (defScope s_is_positive) := ⟨rfl, rfl, rfl, by decide +kernel, rfl, by decide +kernel, by decide +kernel⟩
abbrev s_negated : Stmt := (topS 18)
abbrev N_negated : List Str := ["literal"]
theorem sc_negated : FnScope N_negated ["literal"] (defScope s_negated) := ⟨rfl, rfl, rfl, by decide +kernel, rfl, by decide +kernel, by decide +kernel⟩
abbrev s_both_signs : Stmt := (topS 19)
abbrev N_both_signs : List Str := ["names", "name", "literal"]
theorem sc_both_signs : FnScope N_both_signs ["names"] (defScope s_both_signs) := ⟨rfl, rfl, rfl, by decide +kernel, rfl, by decide +kernel, by decide +kernel⟩
abbrev s_in_order : Stmt := (topS 20)
abbrev N_in_order : List Str := ["literals", "names", "literal"]
theorem sc_in_order : FnScope N_in_order ["literals"] (defScope s_in_order) := ⟨rfl, rfl, rfl, by decide +kernel, rfl, by decide +kernel, by decide +kernel⟩
abbrev s_check_signs : Stmt := (topS 21)
abbrev N_check_signs : List Str := ["ordered", "literal"]
theorem sc_check_signs : FnScope N_check_signs ["ordered"] (defScope s_check_signs) := ⟨rfl, rfl, rfl, by decide +kernel, rfl, by decide +kernel, by decide +kernel⟩
abbrev s_Clause_init : Stmt := (inClass (topS 23) 1)
abbrev N_Clause_init : List Str := ["self", "literals", "ordered"]
theorem sc_Clause_init : FnScope N_Clause_init ["self", "literals"] (defScope s_Clause_init) := ⟨rfl, rfl, rfl, by decide +kernel, rfl, by decide +kernel, by decide +kernel⟩
abbrev s_Clause_names : Stmt := (inClass (topS 23) 2)
abbrev N_Clause_names : List Str := ["self", "literal"]
theorem sc_Clause_names : FnScope N_Clause_names ["self"] (defScope s_Clause_names) := ⟨rfl, rfl, rfl, by decide +kernel, rfl, by decide +kernel, by decide +kernel⟩
abbrev s_Clause_eq : Stmt := (inClass (topS 23) 7)
abbrev s_Clause_str : Stmt := (inClass (topS 23) 13)
abbrev N_Clause_str : List Str := ["self"]
theorem sc_Clause_str : FnScope N_Clause_str ["self"] (defScope s_Clause_str) := ⟨rfl, rfl, rfl, by decide +kernel, rfl, by decide +kernel, by decide +kernel⟩
abbrev s_turned_literal : Stmt := (topS 25)
abbrev s_turned_clause : Stmt := (topS 26)
abbrev s__names_in : Stmt := (topS 28)
abbrev N__names_in : List Str := ["clauses", "clause", "name"]
theorem sc__names_in : FnScope N__names_in ["clauses"] (defScope s__names_in) := ⟨rfl, rfl, rfl, by decide +kernel, rfl, by decide +kernel, by decide +kernel⟩
abbrev s__check_names : Stmt := (topS 29)
abbrev N__check_names : List Str := ["clauses"]
theorem sc__check_names : FnScope N__check_names ["clauses"] (defScope s__check_names) := ⟨rfl, rfl, rfl, by decide +kernel, rfl, by decide +kernel, by decide +kernel⟩
abbrev s__check_room : Stmt := (topS 30)
abbrev N__check_room : List Str := ["placed", "clause"]
theorem sc__check_room : FnScope N__check_room ["placed", "clause"] (defScope s__check_room) := ⟨rfl, rfl, rfl, by decide +kernel, rfl, by decide +kernel, by decide +kernel⟩
abbrev s__placed_from_one : Stmt := (topS 31)
abbrev N__placed_from_one : List Str := ["clauses", "placed", "number", "clause"]
theorem sc__placed_from_one : FnScope N__placed_from_one ["clauses"] (defScope s__placed_from_one) := ⟨rfl, rfl, rfl, by decide +kernel, rfl, by decide +kernel, by decide +kernel⟩
abbrev s__all_turned : Stmt := (topS 32)
abbrev s_book_of : Stmt := (topS 33)
abbrev N_book_of : List Str := ["placed", "last", "book"]
theorem sc_book_of : FnScope N_book_of ["placed", "last"] (defScope s_book_of) := ⟨rfl, rfl, rfl, by decide +kernel, rfl, by decide +kernel, by decide +kernel⟩
abbrev s_Book_init : Stmt := (inClass (topS 34) 3)
abbrev N_Book_init : List Str := ["self", "clauses"]
theorem sc_Book_init : FnScope N_Book_init ["self", "clauses"] (defScope s_Book_init) := ⟨rfl, rfl, rfl, by decide +kernel, rfl, by decide +kernel, by decide +kernel⟩
abbrev s_Book_numbered : Stmt := (inClass (topS 34) 4)
abbrev N_Book_numbered : List Str := ["cls", "pairs", "placed", "last", "number", "clause"]
theorem sc_Book_numbered : FnScope N_Book_numbered ["cls", "pairs"] (defScope s_Book_numbered) := ⟨rfl, rfl, rfl, by decide +kernel, rfl, by decide +kernel, by decide +kernel⟩
abbrev s_Book_names : Stmt := (inClass (topS 34) 5)
abbrev N_Book_names : List Str := ["self"]
theorem sc_Book_names : FnScope N_Book_names ["self"] (defScope s_Book_names) := ⟨rfl, rfl, rfl, by decide +kernel, rfl, by decide +kernel, by decide +kernel⟩
abbrev s_Book_next_number : Stmt := (inClass (topS 34) 6)
abbrev N_Book_next_number : List Str := ["self"]
theorem sc_Book_next_number : FnScope N_Book_next_number ["self"] (defScope s_Book_next_number) := ⟨rfl, rfl, rfl, by decide +kernel, rfl, by decide +kernel, by decide +kernel⟩
abbrev s_Book_iter : Stmt := (inClass (topS 34) 10)
abbrev N_Book_iter : List Str := ["self"]
theorem sc_Book_iter : FnScope N_Book_iter ["self"] (defScope s_Book_iter) := ⟨rfl, rfl, rfl, by decide +kernel, rfl, by decide +kernel, by decide +kernel⟩
abbrev s_Book_len : Stmt := (inClass (topS 34) 11)
abbrev N_Book_len : List Str := ["self"]
theorem sc_Book_len : FnScope N_Book_len ["self"] (defScope s_Book_len) := ⟨rfl, rfl, rfl, by decide +kernel, rfl, by decide +kernel, by decide +kernel⟩
abbrev s_Book_contains : Stmt := (inClass (topS 34) 12)
abbrev N_Book_contains : List Str := ["self", "x"]
theorem sc_Book_contains : FnScope N_Book_contains ["self", "x"] (defScope s_Book_contains) := ⟨rfl, rfl, rfl, by decide +kernel, rfl, by decide +kernel, by decide +kernel⟩
abbrev s_Book_getitem : Stmt := (inClass (topS 34) 13)
abbrev N_Book_getitem : List Str := ["self", "at"]
theorem sc_Book_getitem : FnScope N_Book_getitem ["self", "at"] (defScope s_Book_getitem) := ⟨rfl, rfl, rfl, by decide +kernel, rfl, by decide +kernel, by decide +kernel⟩
abbrev s_is_number : Stmt := (topS 37)
abbrev N_is_number : List Str := ["word", "most"]
theorem sc_is_number : FnScope N_is_number ["word", "most"] (defScope s_is_number) := ⟨rfl, rfl, rfl, by decide +kernel, rfl, by decide +kernel, by decide +kernel⟩
abbrev s__clause_in : Stmt := (topS 38)
abbrev N__clause_in : List Str := ["text", "line", "parts", "error", "clause"]
theorem sc__clause_in : FnScope N__clause_in ["text", "line"] (defScope s__clause_in) := ⟨rfl, rfl, rfl, by decide +kernel, rfl, by decide +kernel, by decide +kernel⟩
abbrev s__pair_in : Stmt := (topS 39)
abbrev N__pair_in : List Str := ["row", "line", "word", "space", "rest"]
theorem sc__pair_in : FnScope N__pair_in ["row", "line"] (defScope s__pair_in) := ⟨rfl, rfl, rfl, by decide +kernel, rfl, by decide +kernel, by decide +kernel⟩
abbrev s__book_up_to : Stmt := (topS 40)
abbrev N__book_up_to : List Str := ["pairs", "line", "error"]
theorem sc__book_up_to : FnScope N__book_up_to ["pairs", "line"] (defScope s__book_up_to) := ⟨rfl, rfl, rfl, by decide +kernel, rfl, by decide +kernel, by decide +kernel⟩
abbrev s_book_in : Stmt := (topS 41)
abbrev N_book_in : List Str := ["rows", "book", "pairs", "line", "row"]
theorem sc_book_in : FnScope N_book_in ["rows"] (defScope s_book_in) := ⟨rfl, rfl, rfl, by decide +kernel, rfl, by decide +kernel, by decide +kernel⟩
abbrev s_read_book : Stmt := (topS 42)
abbrev N_read_book : List Str := ["text"]
theorem sc_read_book : FnScope N_read_book ["text"] (defScope s_read_book) := ⟨rfl, rfl, rfl, by decide +kernel, rfl, by decide +kernel, by decide +kernel⟩
abbrev s_clause_text : Stmt := (topS 44)
abbrev N_clause_text : List Str := ["clause"]
theorem sc_clause_text : FnScope N_clause_text ["clause"] (defScope s_clause_text) := ⟨rfl, rfl, rfl, by decide +kernel, rfl, by decide +kernel, by decide +kernel⟩
abbrev s_book_lines : Stmt := (topS 45)
abbrev N_book_lines : List Str := ["book", "number"]
theorem sc_book_lines : FnScope N_book_lines ["book"] (defScope s_book_lines) := ⟨rfl, rfl, rfl, by decide +kernel, rfl, by decide +kernel, by decide +kernel⟩
abbrev s_book_text : Stmt := (topS 46)
abbrev N_book_text : List Str := ["book"]
theorem sc_book_text : FnScope N_book_text ["book"] (defScope s_book_text) := ⟨rfl, rfl, rfl, by decide +kernel, rfl, by decide +kernel, by decide +kernel⟩
abbrev s__law_source : Stmt := (topS 48)
abbrev N__law_source : List Str := ["_law_script"]
theorem sc__law_source : FnScope N__law_source ["_law_script"] (defScope s__law_source) := ⟨rfl, rfl, rfl, by decide +kernel, rfl, by decide +kernel, by decide +kernel⟩
abbrev s__law_take : Stmt := (topS 49)
abbrev N__law_take : List Str := ["_law_source_here", "_law_many", "_law_mixed", "_law_cell", "_law_value"]
theorem sc__law_take : FnScope N__law_take ["_law_source_here", "_law_many"] (defScope s__law_take) := ⟨rfl, rfl, rfl, by decide +kernel, rfl, by decide +kernel, by decide +kernel⟩
abbrev s__law_word : Stmt := (topS 50)
abbrev N__law_word : List Str := ["_law_source_here", "_law_size", "_law_letters", "_law_signs", "_law_word_here", "_law_number", "_law_k"]
theorem sc__law_word : FnScope N__law_word ["_law_source_here", "_law_size"] (defScope s__law_word) := ⟨rfl, rfl, rfl, by decide +kernel, rfl, by decide +kernel, by decide +kernel⟩
abbrev s__law_names : Stmt := (topS 51)
abbrev N__law_names : List Str := ["_law_source_here", "_law_many", "_law_letters", "_law_style", "_law_size", "_law_at", "_law_base", "_law_shift", "_law_pace", "_law_names_here", "_law_k", "_law_letter"]
theorem sc__law_names : FnScope N__law_names ["_law_source_here", "_law_many"] (defScope s__law_names) := ⟨rfl, rfl, rfl, by decide +kernel, rfl, by decide +kernel, by decide +kernel⟩
abbrev s__law_flip : Stmt := (topS 52)
abbrev N__law_flip : List Str := ["_law_literal"]
theorem sc__law_flip : FnScope N__law_flip ["_law_literal"] (defScope s__law_flip) := ⟨rfl, rfl, rfl, by decide +kernel, rfl, by decide +kernel, by decide +kernel⟩
abbrev s__law_name : Stmt := (topS 53)
abbrev N__law_name : List Str := ["_law_literal"]
theorem sc__law_name : FnScope N__law_name ["_law_literal"] (defScope s__law_name) := ⟨rfl, rfl, rfl, by decide +kernel, rfl, by decide +kernel, by decide +kernel⟩
abbrev s__law_sorted : Stmt := (topS 54)
abbrev N__law_sorted : List Str := ["_law_names_here", "_law_result", "_law_name_here", "_law_each"]
theorem sc__law_sorted : FnScope N__law_sorted ["_law_names_here"] (defScope s__law_sorted) := ⟨rfl, rfl, rfl, by decide +kernel, rfl, by decide +kernel, by decide +kernel⟩
abbrev s__law_ordered : Stmt := (topS 55)
abbrev N__law_ordered : List Str := ["_law_literals", "_law_result", "_law_name_here", "_law_each"]
theorem sc__law_ordered : FnScope N__law_ordered ["_law_literals"] (defScope s__law_ordered) := ⟨rfl, rfl, rfl, by decide +kernel, rfl, by decide +kernel, by decide +kernel⟩
abbrev s__law_same : Stmt := (topS 56)
abbrev N__law_same : List Str := ["_law_one", "_law_other", "_law_lists", "_law_k"]
theorem sc__law_same : FnScope N__law_same ["_law_one", "_law_other"] (defScope s__law_same) := ⟨rfl, rfl, rfl, by decide +kernel, rfl, by decide +kernel, by decide +kernel⟩
abbrev s__law_row : Stmt := (topS 57)
abbrev N__law_row : List Str := ["_law_source_here", "_law_names_here", "_law_most", "_law_row_here", "_law_k", "_law_name_here"]
theorem sc__law_row : FnScope N__law_row ["_law_source_here", "_law_names_here", "_law_most"] (defScope s__law_row) := ⟨rfl, rfl, rfl, by decide +kernel, rfl, by decide +kernel, by decide +kernel⟩
abbrev s__law_numbers : Stmt := (topS 58)
abbrev N__law_numbers : List Str := ["_law_source_here", "_law_many", "_law_gaps", "_law_numbers_here", "_law_last", "_law_k"]
theorem sc__law_numbers : FnScope N__law_numbers ["_law_source_here", "_law_many"] (defScope s__law_numbers) := ⟨rfl, rfl, rfl, by decide +kernel, rfl, by decide +kernel, by decide +kernel⟩
abbrev s__law_names_in : Stmt := (topS 59)
abbrev N__law_names_in : List Str := ["_law_rows", "_law_names_here", "_law_row_here", "_law_literal"]
theorem sc__law_names_in : FnScope N__law_names_in ["_law_rows"] (defScope s__law_names_in) := ⟨rfl, rfl, rfl, by decide +kernel, rfl, by decide +kernel, by decide +kernel⟩
abbrev s__law_bad : Stmt := (topS 60)
abbrev N__law_bad : List Str := ["_law_source_here", "_law_name_here", "_law_barred", "_law_style", "_law_at"]
theorem sc__law_bad : FnScope N__law_bad ["_law_source_here", "_law_name_here"] (defScope s__law_bad) := ⟨rfl, rfl, rfl, by decide +kernel, rfl, by decide +kernel, by decide +kernel⟩
abbrev s__law_is_name : Stmt := (topS 61)
abbrev N__law_is_name : List Str := ["_law_text", "_law_letters", "_law_sign"]
theorem sc__law_is_name : FnScope N__law_is_name ["_law_text"] (defScope s__law_is_name) := ⟨rfl, rfl, rfl, by decide +kernel, rfl, by decide +kernel, by decide +kernel⟩
abbrev s__law_row_of : Stmt := (topS 62)
abbrev N__law_row_of : List Str := ["_law_text", "_law_row_here", "_law_literal"]
theorem sc__law_row_of : FnScope N__law_row_of ["_law_text"] (defScope s__law_row_of) := ⟨rfl, rfl, rfl, by decide +kernel, rfl, by decide +kernel, by decide +kernel⟩
abbrev s__law_number_of : Stmt := (topS 63)
abbrev N__law_number_of : List Str := ["_law_text", "_law_sign"]
theorem sc__law_number_of : FnScope N__law_number_of ["_law_text"] (defScope s__law_number_of) := ⟨rfl, rfl, rfl, by decide +kernel, rfl, by decide +kernel, by decide +kernel⟩
abbrev s__law_judged : Stmt := (topS 64)
abbrev N__law_judged : List Str := ["_law_text", "_law_numbers_here", "_law_rows", "_law_lines_here", "_law_k", "_law_parts", "_law_number", "_law_row_here"]
theorem sc__law_judged : FnScope N__law_judged ["_law_text"] (defScope s__law_judged) := ⟨rfl, rfl, rfl, by decide +kernel, rfl, by decide +kernel, by decide +kernel⟩
abbrev s__law_state : Stmt := (topS 65)
abbrev N__law_state : List Str := ["_law_book", "_law_numbers_here", "_law_rows", "_law_coming", "_law_due", "_law_row_here", "_law_number"]
theorem sc__law_state : FnScope N__law_state ["_law_book", "_law_numbers_here", "_law_rows", "_law_coming"] (defScope s__law_state) := ⟨rfl, rfl, rfl, by decide +kernel, rfl, by decide +kernel, by decide +kernel⟩
abbrev s__law_refused : Stmt := (topS 66)
abbrev N__law_refused : List Str := ["_law_text", "_law_line", "error", "_law_right_here"]
theorem sc__law_refused : FnScope N__law_refused ["_law_text", "_law_line"] (defScope s__law_refused) := ⟨rfl, rfl, rfl, by decide +kernel, rfl, by decide +kernel, by decide +kernel⟩
abbrev s__law_right : Stmt := (topS 67)
abbrev N__law_right : List Str := ["_law_text", "_law_judged_here", "_law_coming", "_law_book"]
theorem sc__law_right : FnScope N__law_right ["_law_text"] (defScope s__law_right) := ⟨rfl, rfl, rfl, by decide +kernel, rfl, by decide +kernel, by decide +kernel⟩
abbrev s__law_lines : Stmt := (topS 68)
abbrev N__law_lines : List Str := ["_law_numbers_here", "_law_rows", "_law_lines_here", "_law_k", "_law_text"]
theorem sc__law_lines : FnScope N__law_lines ["_law_numbers_here", "_law_rows"] (defScope s__law_lines) := ⟨rfl, rfl, rfl, by decide +kernel, rfl, by decide +kernel, by decide +kernel⟩
abbrev s__law_other_clause : Stmt := (topS 69)
abbrev N__law_other_clause : List Str := ["_law_source_here", "_law_row_here", "_law_names_here", "_law_style", "_law_place", "_law_literal"]
theorem sc__law_other_clause : FnScope N__law_other_clause ["_law_source_here", "_law_row_here", "_law_names_here", "_law_style"] (defScope s__law_other_clause) := ⟨rfl, rfl, rfl, by decide +kernel, rfl, by decide +kernel, by decide +kernel⟩
abbrev s__law_other_line : Stmt := (topS 70)
abbrev N__law_other_line : List Str := ["_law_source_here", "_law_number", "_law_before", "_law_rest", "_law_style", "_law_choice", "_law_line"]
theorem sc__law_other_line : FnScope N__law_other_line ["_law_source_here", "_law_number", "_law_before", "_law_rest", "_law_style"] (defScope s__law_other_line) := ⟨rfl, rfl, rfl, by decide +kernel, rfl, by decide +kernel, by decide +kernel⟩
abbrev s__law_spoilt : Stmt := (topS 71)
abbrev N__law_spoilt : List Str := ["_law_source_here", "_law_numbers_here", "_law_rows", "_law_names_here", "_law_lines_here", "_law_style", "_law_at", "_law_rest", "_law_line", "_law_row_here"]
theorem sc__law_spoilt : FnScope N__law_spoilt ["_law_source_here", "_law_numbers_here", "_law_rows", "_law_names_here"] (defScope s__law_spoilt) := ⟨rfl, rfl, rfl, by decide +kernel, rfl, by decide +kernel, by decide +kernel⟩
abbrev s_law : Stmt := (topS 72)
abbrev N_law : List Str := ["_law_script", "_law_source_here", "_law_names_here", "_law_many", "_law_rows", "_law_numbers_here", "_law_text", "_law_k"]
theorem sc_law : FnScope N_law ["_law_script"] (defScope s_law) := ⟨rfl, rfl, rfl, by decide +kernel, rfl, by decide +kernel, by decide +kernel⟩
abbrev me_BadLiteral : PySem.Expr := (.JoinedStr [(.Constant (.str "not a literal: ") 0 ⟨10, 27, 10, 42⟩), (.FormattedValue (.Name "text" ⟨10, 43, 10, 47⟩) 114 none ⟨10, 42, 10, 50⟩)] ⟨10, 25, 10, 51⟩)
abbrev ea_BadLiteral : Arguments := (args1 "text" ⟨9, 17, 9, 21⟩ ⟨9, 23, 9, 27⟩)
abbrev eb_BadLiteral : List Stmt := [supS me_BadLiteral ⟨10, 8, 10, 13⟩ ⟨10, 8, 10, 15⟩ ⟨10, 8, 10, 24⟩ ⟨10, 8, 10, 52⟩ ⟨10, 8, 10, 52⟩, keepS "text" ⟨11, 8, 11, 12⟩ ⟨11, 8, 11, 17⟩ ⟨11, 20, 11, 24⟩ ⟨11, 8, 11, 24⟩]
abbrev me_BadText : PySem.Expr := (.JoinedStr [(.Constant (.str "line ") 0 ⟨15, 27, 15, 32⟩), (.FormattedValue (.Name "line" ⟨15, 33, 15, 37⟩) (-1) none ⟨15, 32, 15, 38⟩), (.Constant (.str " cannot be read") 0 ⟨15, 38, 15, 53⟩)] ⟨15, 25, 15, 54⟩)
abbrev ea_BadText : Arguments := (args1 "line" ⟨14, 17, 14, 21⟩ ⟨14, 23, 14, 27⟩)
abbrev eb_BadText : List Stmt := [supS me_BadText ⟨15, 8, 15, 13⟩ ⟨15, 8, 15, 15⟩ ⟨15, 8, 15, 24⟩ ⟨15, 8, 15, 55⟩ ⟨15, 8, 15, 55⟩, keepS "line" ⟨16, 8, 16, 12⟩ ⟨16, 8, 16, 17⟩ ⟨16, 20, 16, 24⟩ ⟨16, 8, 16, 24⟩]
abbrev me_BothSigns : PySem.Expr := (.JoinedStr [(.FormattedValue (.Name "name" ⟨20, 28, 20, 32⟩) (-1) none ⟨20, 27, 20, 33⟩), (.Constant (.str " stands in both signs") 0 ⟨20, 33, 20, 54⟩)] ⟨20, 25, 20, 55⟩)
abbrev ea_BothSigns : Arguments := (args1 "name" ⟨19, 17, 19, 21⟩ ⟨19, 23, 19, 27⟩)
abbrev eb_BothSigns : List Stmt := [supS me_BothSigns ⟨20, 8, 20, 13⟩ ⟨20, 8, 20, 15⟩ ⟨20, 8, 20, 24⟩ ⟨20, 8, 20, 56⟩ ⟨20, 8, 20, 56⟩, keepS "name" ⟨21, 8, 21, 12⟩ ⟨21, 8, 21, 17⟩ ⟨21, 20, 21, 24⟩ ⟨21, 8, 21, 24⟩]
abbrev me_TooMany : PySem.Expr := (.JoinedStr [(.Constant (.str "there may be at most ") 0 ⟨25, 27, 25, 48⟩), (.FormattedValue (.Name "limit" ⟨25, 49, 25, 54⟩) (-1) none ⟨25, 48, 25, 55⟩)] ⟨25, 25, 25, 56⟩)
abbrev ea_TooMany : Arguments := (args1 "limit" ⟨24, 17, 24, 21⟩ ⟨24, 23, 24, 28⟩)
abbrev eb_TooMany : List Stmt := [supS me_TooMany ⟨25, 8, 25, 13⟩ ⟨25, 8, 25, 15⟩ ⟨25, 8, 25, 24⟩ ⟨25, 8, 25, 57⟩ ⟨25, 8, 25, 57⟩, keepS "limit" ⟨26, 8, 26, 12⟩ ⟨26, 8, 26, 18⟩ ⟨26, 21, 26, 26⟩ ⟨26, 8, 26, 26⟩]
abbrev me_NoClause : PySem.Expr := (.JoinedStr [(.Constant (.str "the book has no clause ") 0 ⟨30, 27, 30, 50⟩), (.FormattedValue (.Name "number" ⟨30, 51, 30, 57⟩) (-1) none ⟨30, 50, 30, 58⟩)] ⟨30, 25, 30, 59⟩)
abbrev ea_NoClause : Arguments := (args1 "number" ⟨29, 17, 29, 21⟩ ⟨29, 23, 29, 29⟩)
abbrev eb_NoClause : List Stmt := [supS me_NoClause ⟨30, 8, 30, 13⟩ ⟨30, 8, 30, 15⟩ ⟨30, 8, 30, 24⟩ ⟨30, 8, 30, 60⟩ ⟨30, 8, 30, 60⟩, keepS "number" ⟨31, 8, 31, 12⟩ ⟨31, 8, 31, 19⟩ ⟨31, 22, 31, 28⟩ ⟨31, 8, 31, 28⟩]
abbrev me_BadNumber : PySem.Expr := (.JoinedStr [(.Constant (.str "not a number for a clause here: ") 0 ⟨35, 27, 35, 59⟩), (.FormattedValue (.Name "number" ⟨35, 60, 35, 66⟩) (-1) none ⟨35, 59, 35, 67⟩)] ⟨35, 25, 35, 68⟩)
abbrev ea_BadNumber : Arguments := (args1 "number" ⟨34, 17, 34, 21⟩ ⟨34, 23, 34, 29⟩)
abbrev eb_BadNumber : List Stmt := [supS me_BadNumber ⟨35, 8, 35, 13⟩ ⟨35, 8, 35, 15⟩ ⟨35, 8, 35, 24⟩ ⟨35, 8, 35, 69⟩ ⟨35, 8, 35, 69⟩, keepS "number" ⟨36, 8, 36, 12⟩ ⟨36, 8, 36, 19⟩ ⟨36, 22, 36, 28⟩ ⟨36, 8, 36, 28⟩]
theorem fld_limit : Fld "limit" := ⟨fun _ _ _ _ _ _ _ _ _ _ _ _ _ _ => rfl, rfl, by decide, rfl, rfl, rfl, by decide⟩
theorem fld_line : Fld "line" := ⟨fun _ _ _ _ _ _ _ _ _ _ _ _ _ _ => rfl, rfl, by decide, rfl, rfl, rfl, by decide⟩
theorem fld_name : Fld "name" := ⟨fun _ _ _ _ _ _ _ _ _ _ _ _ _ _ => rfl, rfl, by decide, rfl, rfl, rfl, by decide⟩
theorem fld_number : Fld "number" := ⟨fun _ _ _ _ _ _ _ _ _ _ _ _ _ _ => rfl, rfl, by decide, rfl, rfl, rfl, by decide⟩
theorem fld_text : Fld "text" := ⟨fun _ _ _ _ _ _ _ _ _ _ _ _ _ _ => rfl, rfl, by decide, rfl, rfl, rfl, by decide⟩
structure Txt (P : Program) (K : PySem.W.Frag) (mg : Str → Option Value) where
  C_Clause : Addr
  g_Clause : mg "Clause" = some (.ref C_Clause)
  cl_Clause : Cls K C_Clause
  mi_Clause : PySem.W.makesIn K C_Clause = true
  kc_Clause : PySem.W.keepIn K (.ref C_Clause) = true
  ins_Clause : C8.InsC K C_Clause
  na_Clause_literals : NoAttr K C_Clause "literals"
  C_Book : Addr
  g_Book : mg "Book" = some (.ref C_Book)
  cl_Book : Cls K C_Book
  mi_Book : PySem.W.makesIn K C_Book = true
  kc_Book : PySem.W.keepIn K (.ref C_Book) = true
  ins_Book : C8.InsC K C_Book
  na_Book__placed : NoAttr K C_Book "_placed"
  na_Book__last : NoAttr K C_Book "_last"
  kt_str_Clause : PySem.W.kitOne K (.type "str") (.ref C_Clause) = some false
  R_Clause : ClX.CRead K C_Clause (.type "type")
  V_Clause_LIMIT : ∃ u, ClX.CVal K C_Clause (.type "type") "LIMIT" (.int 6) u
  R_Book : ClX.CRead K C_Book (.type "type")
  V_Book_LIMIT : ∃ u, ClX.CVal K C_Book (.type "type") "LIMIT" (.int 24) u
  V_Book_NAMES : ∃ u, ClX.CVal K C_Book (.type "type") "NAMES" (.int 12) u
  V_Book_NUMBERS : ∃ u, ClX.CVal K C_Book (.type "type") "NUMBERS" (.int 999) u
  f_is_name : Addr
  d_is_name : FuncData
  F_is_name : Fun K "is_name" "is_name" s_is_name f_is_name d_is_name
  b_is_name : Binds K d_is_name ["text"] []
  g_is_name : mg "is_name" = some (.ref f_is_name)
  f_is_literal : Addr
  d_is_literal : FuncData
  F_is_literal : Fun K "is_literal" "is_literal" s_is_literal f_is_literal d_is_literal
  b_is_literal : Binds K d_is_literal ["text"] []
  g_is_literal : mg "is_literal" = some (.ref f_is_literal)
  f_check_literal : Addr
  d_check_literal : FuncData
  F_check_literal : Fun K "check_literal" "check_literal" s_check_literal f_check_literal d_check_literal
  b_check_literal : Binds K d_check_literal ["text"] []
  g_check_literal : mg "check_literal" = some (.ref f_check_literal)
  f_name_of : Addr
  d_name_of : FuncData
  F_name_of : Fun K "name_of" "name_of" s_name_of f_name_of d_name_of
  b_name_of : Binds K d_name_of ["literal"] []
  g_name_of : mg "name_of" = some (.ref f_name_of)
  f_is_positive : Addr
  d_is_positive : FuncData
  F_is_positive : Fun K "is_positive" "is_positive" s_is_positive f_is_positive d_is_positive
  b_is_positive : Binds K d_is_positive ["literal"] []
  g_is_positive : mg "is_positive" = some (.ref f_is_positive)
  f_negated : Addr
  d_negated : FuncData
  F_negated : Fun K "negated" "negated" s_negated f_negated d_negated
  b_negated : Binds K d_negated ["literal"] []
  g_negated : mg "negated" = some (.ref f_negated)
  f_both_signs : Addr
  d_both_signs : FuncData
  F_both_signs : Fun K "both_signs" "both_signs" s_both_signs f_both_signs d_both_signs
  b_both_signs : Binds K d_both_signs ["names"] []
  g_both_signs : mg "both_signs" = some (.ref f_both_signs)
  f_in_order : Addr
  d_in_order : FuncData
  F_in_order : Fun K "in_order" "in_order" s_in_order f_in_order d_in_order
  b_in_order : Binds K d_in_order ["literals"] []
  g_in_order : mg "in_order" = some (.ref f_in_order)
  f_check_signs : Addr
  d_check_signs : FuncData
  F_check_signs : Fun K "check_signs" "check_signs" s_check_signs f_check_signs d_check_signs
  b_check_signs : Binds K d_check_signs ["ordered"] []
  g_check_signs : mg "check_signs" = some (.ref f_check_signs)
  f_Clause_init : Addr
  d_Clause_init : FuncData
  F_Clause_init : Fun K "__init__" "Clause.__init__" s_Clause_init f_Clause_init d_Clause_init
  m_Clause_init : PySem.W.findIn K (.ref C_Clause) "__init__" = some (some (.ref f_Clause_init))
  i_Clause_init : PySem.W.isFn K (.ref f_Clause_init) = true
  f_Clause_names : Addr
  d_Clause_names : FuncData
  F_Clause_names : Fun K "names" "Clause.names" s_Clause_names f_Clause_names d_Clause_names
  p_Clause_names : Addr
  P_Clause_names : PropOf K C_Clause "names" p_Clause_names f_Clause_names
  b_Clause_names : Binds K d_Clause_names ["self"] []
  f_Clause_eq : Addr
  d_Clause_eq : FuncData
  F_Clause_eq : Fun K "__eq__" "Clause.__eq__" s_Clause_eq f_Clause_eq d_Clause_eq
  m_Clause_eq : PySem.W.findIn K (.ref C_Clause) "__eq__" = some (some (.ref f_Clause_eq))
  i_Clause_eq : PySem.W.isFn K (.ref f_Clause_eq) = true
  b_Clause_eq : Binds K d_Clause_eq ["self", "other"] []
  f_Clause_str : Addr
  d_Clause_str : FuncData
  F_Clause_str : Fun K "__str__" "Clause.__str__" s_Clause_str f_Clause_str d_Clause_str
  m_Clause_str : PySem.W.findIn K (.ref C_Clause) "__str__" = some (some (.ref f_Clause_str))
  i_Clause_str : PySem.W.isFn K (.ref f_Clause_str) = true
  b_Clause_str : Binds K d_Clause_str ["self"] []
  f_turned_literal : Addr
  d_turned_literal : FuncData
  F_turned_literal : Fun K "turned_literal" "turned_literal" s_turned_literal f_turned_literal d_turned_literal
  b_turned_literal : Binds K d_turned_literal ["turning", "literal"] []
  g_turned_literal : mg "turned_literal" = some (.ref f_turned_literal)
  f_turned_clause : Addr
  d_turned_clause : FuncData
  F_turned_clause : Fun K "turned_clause" "turned_clause" s_turned_clause f_turned_clause d_turned_clause
  b_turned_clause : Binds K d_turned_clause ["turning", "clause"] []
  g_turned_clause : mg "turned_clause" = some (.ref f_turned_clause)
  f__names_in : Addr
  d__names_in : FuncData
  F__names_in : Fun K "_names_in" "_names_in" s__names_in f__names_in d__names_in
  b__names_in : Binds K d__names_in ["clauses"] []
  g__names_in : mg "_names_in" = some (.ref f__names_in)
  f__check_names : Addr
  d__check_names : FuncData
  F__check_names : Fun K "_check_names" "_check_names" s__check_names f__check_names d__check_names
  b__check_names : Binds K d__check_names ["clauses"] []
  g__check_names : mg "_check_names" = some (.ref f__check_names)
  f__check_room : Addr
  d__check_room : FuncData
  F__check_room : Fun K "_check_room" "_check_room" s__check_room f__check_room d__check_room
  b__check_room : Binds K d__check_room ["placed", "clause"] []
  g__check_room : mg "_check_room" = some (.ref f__check_room)
  f__placed_from_one : Addr
  d__placed_from_one : FuncData
  F__placed_from_one : Fun K "_placed_from_one" "_placed_from_one" s__placed_from_one f__placed_from_one d__placed_from_one
  b__placed_from_one : Binds K d__placed_from_one ["clauses"] []
  g__placed_from_one : mg "_placed_from_one" = some (.ref f__placed_from_one)
  f__all_turned : Addr
  d__all_turned : FuncData
  F__all_turned : Fun K "_all_turned" "_all_turned" s__all_turned f__all_turned d__all_turned
  b__all_turned : Binds K d__all_turned ["placed", "turning"] []
  g__all_turned : mg "_all_turned" = some (.ref f__all_turned)
  f_book_of : Addr
  d_book_of : FuncData
  F_book_of : Fun K "book_of" "book_of" s_book_of f_book_of d_book_of
  b_book_of : Binds K d_book_of ["placed", "last"] []
  g_book_of : mg "book_of" = some (.ref f_book_of)
  f_Book_init : Addr
  d_Book_init : FuncData
  F_Book_init : Fun K "__init__" "Book.__init__" s_Book_init f_Book_init d_Book_init
  m_Book_init : PySem.W.findIn K (.ref C_Book) "__init__" = some (some (.ref f_Book_init))
  i_Book_init : PySem.W.isFn K (.ref f_Book_init) = true
  f_Book_numbered : Addr
  d_Book_numbered : FuncData
  F_Book_numbered : Fun K "numbered" "Book.numbered" s_Book_numbered f_Book_numbered d_Book_numbered
  p_Book_numbered : Addr
  M_Book_numbered : ClX.CMet K C_Book (.type "type") "numbered" p_Book_numbered f_Book_numbered
  b_Book_numbered : Binds K d_Book_numbered ["cls", "pairs"] []
  f_Book_names : Addr
  d_Book_names : FuncData
  F_Book_names : Fun K "names" "Book.names" s_Book_names f_Book_names d_Book_names
  p_Book_names : Addr
  P_Book_names : PropOf K C_Book "names" p_Book_names f_Book_names
  b_Book_names : Binds K d_Book_names ["self"] []
  f_Book_next_number : Addr
  d_Book_next_number : FuncData
  F_Book_next_number : Fun K "next_number" "Book.next_number" s_Book_next_number f_Book_next_number d_Book_next_number
  p_Book_next_number : Addr
  P_Book_next_number : PropOf K C_Book "next_number" p_Book_next_number f_Book_next_number
  b_Book_next_number : Binds K d_Book_next_number ["self"] []
  f_Book_iter : Addr
  d_Book_iter : FuncData
  F_Book_iter : Fun K "__iter__" "Book.__iter__" s_Book_iter f_Book_iter d_Book_iter
  m_Book_iter : PySem.W.findIn K (.ref C_Book) "__iter__" = some (some (.ref f_Book_iter))
  i_Book_iter : PySem.W.isFn K (.ref f_Book_iter) = true
  b_Book_iter : Binds K d_Book_iter ["self"] []
  f_Book_len : Addr
  d_Book_len : FuncData
  F_Book_len : Fun K "__len__" "Book.__len__" s_Book_len f_Book_len d_Book_len
  m_Book_len : PySem.W.findIn K (.ref C_Book) "__len__" = some (some (.ref f_Book_len))
  i_Book_len : PySem.W.isFn K (.ref f_Book_len) = true
  b_Book_len : Binds K d_Book_len ["self"] []
  f_Book_contains : Addr
  d_Book_contains : FuncData
  F_Book_contains : Fun K "__contains__" "Book.__contains__" s_Book_contains f_Book_contains d_Book_contains
  m_Book_contains : PySem.W.findIn K (.ref C_Book) "__contains__" = some (some (.ref f_Book_contains))
  i_Book_contains : PySem.W.isFn K (.ref f_Book_contains) = true
  b_Book_contains : Binds K d_Book_contains ["self", "x"] []
  f_Book_getitem : Addr
  d_Book_getitem : FuncData
  F_Book_getitem : Fun K "__getitem__" "Book.__getitem__" s_Book_getitem f_Book_getitem d_Book_getitem
  m_Book_getitem : PySem.W.findIn K (.ref C_Book) "__getitem__" = some (some (.ref f_Book_getitem))
  i_Book_getitem : PySem.W.isFn K (.ref f_Book_getitem) = true
  b_Book_getitem : Binds K d_Book_getitem ["self", "at"] []
  f_is_number : Addr
  d_is_number : FuncData
  F_is_number : Fun K "is_number" "is_number" s_is_number f_is_number d_is_number
  b_is_number : Binds K d_is_number ["word", "most"] []
  g_is_number : mg "is_number" = some (.ref f_is_number)
  f__clause_in : Addr
  d__clause_in : FuncData
  F__clause_in : Fun K "_clause_in" "_clause_in" s__clause_in f__clause_in d__clause_in
  b__clause_in : Binds K d__clause_in ["text", "line"] []
  g__clause_in : mg "_clause_in" = some (.ref f__clause_in)
  f__pair_in : Addr
  d__pair_in : FuncData
  F__pair_in : Fun K "_pair_in" "_pair_in" s__pair_in f__pair_in d__pair_in
  b__pair_in : Binds K d__pair_in ["row", "line"] []
  g__pair_in : mg "_pair_in" = some (.ref f__pair_in)
  f__book_up_to : Addr
  d__book_up_to : FuncData
  F__book_up_to : Fun K "_book_up_to" "_book_up_to" s__book_up_to f__book_up_to d__book_up_to
  b__book_up_to : Binds K d__book_up_to ["pairs", "line"] []
  g__book_up_to : mg "_book_up_to" = some (.ref f__book_up_to)
  f_book_in : Addr
  d_book_in : FuncData
  F_book_in : Fun K "book_in" "book_in" s_book_in f_book_in d_book_in
  b_book_in : Binds K d_book_in ["rows"] []
  g_book_in : mg "book_in" = some (.ref f_book_in)
  f_read_book : Addr
  d_read_book : FuncData
  F_read_book : Fun K "read_book" "read_book" s_read_book f_read_book d_read_book
  b_read_book : Binds K d_read_book ["text"] []
  g_read_book : mg "read_book" = some (.ref f_read_book)
  f_clause_text : Addr
  d_clause_text : FuncData
  F_clause_text : Fun K "clause_text" "clause_text" s_clause_text f_clause_text d_clause_text
  b_clause_text : Binds K d_clause_text ["clause"] []
  g_clause_text : mg "clause_text" = some (.ref f_clause_text)
  f_book_lines : Addr
  d_book_lines : FuncData
  F_book_lines : Fun K "book_lines" "book_lines" s_book_lines f_book_lines d_book_lines
  b_book_lines : Binds K d_book_lines ["book"] []
  g_book_lines : mg "book_lines" = some (.ref f_book_lines)
  f_book_text : Addr
  d_book_text : FuncData
  F_book_text : Fun K "book_text" "book_text" s_book_text f_book_text d_book_text
  b_book_text : Binds K d_book_text ["book"] []
  g_book_text : mg "book_text" = some (.ref f_book_text)
  f__law_source : Addr
  d__law_source : FuncData
  F__law_source : Fun K "_law_source" "_law_source" s__law_source f__law_source d__law_source
  b__law_source : Binds K d__law_source ["_law_script"] []
  g__law_source : mg "_law_source" = some (.ref f__law_source)
  f__law_take : Addr
  d__law_take : FuncData
  F__law_take : Fun K "_law_take" "_law_take" s__law_take f__law_take d__law_take
  b__law_take : Binds K d__law_take ["_law_source_here", "_law_many"] []
  g__law_take : mg "_law_take" = some (.ref f__law_take)
  f__law_word : Addr
  d__law_word : FuncData
  F__law_word : Fun K "_law_word" "_law_word" s__law_word f__law_word d__law_word
  b__law_word : Binds K d__law_word ["_law_source_here", "_law_size"] []
  g__law_word : mg "_law_word" = some (.ref f__law_word)
  f__law_names : Addr
  d__law_names : FuncData
  F__law_names : Fun K "_law_names" "_law_names" s__law_names f__law_names d__law_names
  b__law_names : Binds K d__law_names ["_law_source_here", "_law_many"] []
  g__law_names : mg "_law_names" = some (.ref f__law_names)
  f__law_flip : Addr
  d__law_flip : FuncData
  F__law_flip : Fun K "_law_flip" "_law_flip" s__law_flip f__law_flip d__law_flip
  b__law_flip : Binds K d__law_flip ["_law_literal"] []
  g__law_flip : mg "_law_flip" = some (.ref f__law_flip)
  f__law_name : Addr
  d__law_name : FuncData
  F__law_name : Fun K "_law_name" "_law_name" s__law_name f__law_name d__law_name
  b__law_name : Binds K d__law_name ["_law_literal"] []
  g__law_name : mg "_law_name" = some (.ref f__law_name)
  f__law_sorted : Addr
  d__law_sorted : FuncData
  F__law_sorted : Fun K "_law_sorted" "_law_sorted" s__law_sorted f__law_sorted d__law_sorted
  b__law_sorted : Binds K d__law_sorted ["_law_names_here"] []
  g__law_sorted : mg "_law_sorted" = some (.ref f__law_sorted)
  f__law_ordered : Addr
  d__law_ordered : FuncData
  F__law_ordered : Fun K "_law_ordered" "_law_ordered" s__law_ordered f__law_ordered d__law_ordered
  b__law_ordered : Binds K d__law_ordered ["_law_literals"] []
  g__law_ordered : mg "_law_ordered" = some (.ref f__law_ordered)
  f__law_same : Addr
  d__law_same : FuncData
  F__law_same : Fun K "_law_same" "_law_same" s__law_same f__law_same d__law_same
  b__law_same : Binds K d__law_same ["_law_one", "_law_other"] []
  g__law_same : mg "_law_same" = some (.ref f__law_same)
  f__law_row : Addr
  d__law_row : FuncData
  F__law_row : Fun K "_law_row" "_law_row" s__law_row f__law_row d__law_row
  b__law_row : Binds K d__law_row ["_law_source_here", "_law_names_here", "_law_most"] []
  g__law_row : mg "_law_row" = some (.ref f__law_row)
  f__law_numbers : Addr
  d__law_numbers : FuncData
  F__law_numbers : Fun K "_law_numbers" "_law_numbers" s__law_numbers f__law_numbers d__law_numbers
  b__law_numbers : Binds K d__law_numbers ["_law_source_here", "_law_many"] []
  g__law_numbers : mg "_law_numbers" = some (.ref f__law_numbers)
  f__law_names_in : Addr
  d__law_names_in : FuncData
  F__law_names_in : Fun K "_law_names_in" "_law_names_in" s__law_names_in f__law_names_in d__law_names_in
  b__law_names_in : Binds K d__law_names_in ["_law_rows"] []
  g__law_names_in : mg "_law_names_in" = some (.ref f__law_names_in)
  f__law_bad : Addr
  d__law_bad : FuncData
  F__law_bad : Fun K "_law_bad" "_law_bad" s__law_bad f__law_bad d__law_bad
  b__law_bad : Binds K d__law_bad ["_law_source_here", "_law_name_here"] []
  g__law_bad : mg "_law_bad" = some (.ref f__law_bad)
  f__law_is_name : Addr
  d__law_is_name : FuncData
  F__law_is_name : Fun K "_law_is_name" "_law_is_name" s__law_is_name f__law_is_name d__law_is_name
  b__law_is_name : Binds K d__law_is_name ["_law_text"] []
  g__law_is_name : mg "_law_is_name" = some (.ref f__law_is_name)
  f__law_row_of : Addr
  d__law_row_of : FuncData
  F__law_row_of : Fun K "_law_row_of" "_law_row_of" s__law_row_of f__law_row_of d__law_row_of
  b__law_row_of : Binds K d__law_row_of ["_law_text"] []
  g__law_row_of : mg "_law_row_of" = some (.ref f__law_row_of)
  f__law_number_of : Addr
  d__law_number_of : FuncData
  F__law_number_of : Fun K "_law_number_of" "_law_number_of" s__law_number_of f__law_number_of d__law_number_of
  b__law_number_of : Binds K d__law_number_of ["_law_text"] []
  g__law_number_of : mg "_law_number_of" = some (.ref f__law_number_of)
  f__law_judged : Addr
  d__law_judged : FuncData
  F__law_judged : Fun K "_law_judged" "_law_judged" s__law_judged f__law_judged d__law_judged
  b__law_judged : Binds K d__law_judged ["_law_text"] []
  g__law_judged : mg "_law_judged" = some (.ref f__law_judged)
  f__law_state : Addr
  d__law_state : FuncData
  F__law_state : Fun K "_law_state" "_law_state" s__law_state f__law_state d__law_state
  b__law_state : Binds K d__law_state ["_law_book", "_law_numbers_here", "_law_rows", "_law_coming"] []
  g__law_state : mg "_law_state" = some (.ref f__law_state)
  f__law_refused : Addr
  d__law_refused : FuncData
  F__law_refused : Fun K "_law_refused" "_law_refused" s__law_refused f__law_refused d__law_refused
  b__law_refused : Binds K d__law_refused ["_law_text", "_law_line"] []
  g__law_refused : mg "_law_refused" = some (.ref f__law_refused)
  f__law_right : Addr
  d__law_right : FuncData
  F__law_right : Fun K "_law_right" "_law_right" s__law_right f__law_right d__law_right
  b__law_right : Binds K d__law_right ["_law_text"] []
  g__law_right : mg "_law_right" = some (.ref f__law_right)
  f__law_lines : Addr
  d__law_lines : FuncData
  F__law_lines : Fun K "_law_lines" "_law_lines" s__law_lines f__law_lines d__law_lines
  b__law_lines : Binds K d__law_lines ["_law_numbers_here", "_law_rows"] []
  g__law_lines : mg "_law_lines" = some (.ref f__law_lines)
  f__law_other_clause : Addr
  d__law_other_clause : FuncData
  F__law_other_clause : Fun K "_law_other_clause" "_law_other_clause" s__law_other_clause f__law_other_clause d__law_other_clause
  b__law_other_clause : Binds K d__law_other_clause ["_law_source_here", "_law_row_here", "_law_names_here", "_law_style"] []
  g__law_other_clause : mg "_law_other_clause" = some (.ref f__law_other_clause)
  f__law_other_line : Addr
  d__law_other_line : FuncData
  F__law_other_line : Fun K "_law_other_line" "_law_other_line" s__law_other_line f__law_other_line d__law_other_line
  b__law_other_line : Binds K d__law_other_line ["_law_source_here", "_law_number", "_law_before", "_law_rest", "_law_style"] []
  g__law_other_line : mg "_law_other_line" = some (.ref f__law_other_line)
  f__law_spoilt : Addr
  d__law_spoilt : FuncData
  F__law_spoilt : Fun K "_law_spoilt" "_law_spoilt" s__law_spoilt f__law_spoilt d__law_spoilt
  b__law_spoilt : Binds K d__law_spoilt ["_law_source_here", "_law_numbers_here", "_law_rows", "_law_names_here"] []
  g__law_spoilt : mg "_law_spoilt" = some (.ref f__law_spoilt)
  f_law : Addr
  d_law : FuncData
  F_law : Fun K "law" "law" s_law f_law d_law
  b_law : Binds K d_law ["_law_script"] []
  g_law : mg "law" = some (.ref f_law)
  om_Book : mro2 K C_Book = true
  om_Clause : mro2 K C_Clause = true
  t_LETTERS : Tok
  v_LETTERS : mg "LETTERS" = some (.str "abcdefghijklmnopqrstuvwxyz" t_LETTERS)
  t_LETTERS_AND_DIGITS : Tok
  v_LETTERS_AND_DIGITS : mg "LETTERS_AND_DIGITS" = some (.str "abcdefghijklmnopqrstuvwxyz0123456789" t_LETTERS_AND_DIGITS)
  t_LONGEST_NAME : Tok
  v_LONGEST_NAME : mg "LONGEST_NAME" = some (.int 8 t_LONGEST_NAME)
  t_MOST_DIGITS : Tok
  v_MOST_DIGITS : mg "MOST_DIGITS" = some (.int 3 t_MOST_DIGITS)
  C_HornError : Addr
  g_HornError : mg "HornError" = some (.ref C_HornError)
  C_BadLiteral : Addr
  i_BadLiteral : Addr
  E_BadLiteral : Cls1 P K mg "BadLiteral" C_BadLiteral i_BadLiteral ea_BadLiteral eb_BadLiteral (scope1 "text")
  o_BadLiteral : PySem.W.findIn K (.ref C_BadLiteral) "text" = some none
  x_BadLiteral : ExcC K C_BadLiteral
  C_BadText : Addr
  i_BadText : Addr
  E_BadText : Cls1 P K mg "BadText" C_BadText i_BadText ea_BadText eb_BadText (scope1 "line")
  o_BadText : PySem.W.findIn K (.ref C_BadText) "line" = some none
  x_BadText : ExcC K C_BadText
  C_BothSigns : Addr
  i_BothSigns : Addr
  E_BothSigns : Cls1 P K mg "BothSigns" C_BothSigns i_BothSigns ea_BothSigns eb_BothSigns (scope1 "name")
  o_BothSigns : PySem.W.findIn K (.ref C_BothSigns) "name" = some none
  x_BothSigns : ExcC K C_BothSigns
  C_TooMany : Addr
  i_TooMany : Addr
  E_TooMany : Cls1 P K mg "TooMany" C_TooMany i_TooMany ea_TooMany eb_TooMany (scope1 "limit")
  o_TooMany : PySem.W.findIn K (.ref C_TooMany) "limit" = some none
  x_TooMany : ExcC K C_TooMany
  C_NoClause : Addr
  i_NoClause : Addr
  E_NoClause : Cls1 P K mg "NoClause" C_NoClause i_NoClause ea_NoClause eb_NoClause (scope1 "number")
  o_NoClause : PySem.W.findIn K (.ref C_NoClause) "number" = some none
  x_NoClause : ExcC K C_NoClause
  C_BadNumber : Addr
  i_BadNumber : Addr
  E_BadNumber : Cls1 P K mg "BadNumber" C_BadNumber i_BadNumber ea_BadNumber eb_BadNumber (scope1 "number")
  o_BadNumber : PySem.W.findIn K (.ref C_BadNumber) "number" = some none
  x_BadNumber : ExcC K C_BadNumber
  su_BothSigns_BadLiteral : PySem.W.subIn K (.ref C_BothSigns) (.ref C_BadLiteral) = some false
  su_TooMany_BadLiteral : PySem.W.subIn K (.ref C_TooMany) (.ref C_BadLiteral) = some false
  su_TooMany_BothSigns : PySem.W.subIn K (.ref C_TooMany) (.ref C_BothSigns) = some false
  su_BadLiteral_BothSigns : PySem.W.subIn K (.ref C_BadLiteral) (.ref C_BothSigns) = some false
  su_BadLiteral_TooMany : PySem.W.subIn K (.ref C_BadLiteral) (.ref C_TooMany) = some false
  su_BothSigns_TooMany : PySem.W.subIn K (.ref C_BothSigns) (.ref C_TooMany) = some false
  su_BadNumber_TooMany : PySem.W.subIn K (.ref C_BadNumber) (.ref C_TooMany) = some false
  su_TooMany_BadNumber : PySem.W.subIn K (.ref C_TooMany) (.ref C_BadNumber) = some false
  su_BadText_BadLiteral : PySem.W.subIn K (.ref C_BadText) (.ref C_BadLiteral) = some false
  su_BadText_BadNumber : PySem.W.subIn K (.ref C_BadText) (.ref C_BadNumber) = some false
  su_BadText_TooMany : PySem.W.subIn K (.ref C_BadText) (.ref C_TooMany) = some false
  k_BadLiteral_BadLiteral : ∃ b, PySem.W.kitOne K (.ref C_BadLiteral) (.ref C_BadLiteral) = some b ∧ b = true
  k_BadLiteral_BadNumber : ∃ b, PySem.W.kitOne K (.ref C_BadLiteral) (.ref C_BadNumber) = some b ∧ b = false
  k_BadLiteral_HornError : ∃ b, PySem.W.kitOne K (.ref C_BadLiteral) (.ref C_HornError) = some b ∧ b = true
  k_BadLiteral_TooMany : ∃ b, PySem.W.kitOne K (.ref C_BadLiteral) (.ref C_TooMany) = some b ∧ b = false
  k_BadLiteral_ValueError : ∃ b, PySem.W.kitOne K (.ref C_BadLiteral) (.type "ValueError") = some b ∧ b = true
  k_BadText_BadLiteral : ∃ b, PySem.W.kitOne K (.ref C_BadText) (.ref C_BadLiteral) = some b ∧ b = false
  k_BadText_BadNumber : ∃ b, PySem.W.kitOne K (.ref C_BadText) (.ref C_BadNumber) = some b ∧ b = false
  k_BadText_HornError : ∃ b, PySem.W.kitOne K (.ref C_BadText) (.ref C_HornError) = some b ∧ b = true
  k_BadText_TooMany : ∃ b, PySem.W.kitOne K (.ref C_BadText) (.ref C_TooMany) = some b ∧ b = false
  k_BadText_ValueError : ∃ b, PySem.W.kitOne K (.ref C_BadText) (.type "ValueError") = some b ∧ b = true
  k_BothSigns_BadLiteral : ∃ b, PySem.W.kitOne K (.ref C_BothSigns) (.ref C_BadLiteral) = some b ∧ b = false
  k_BothSigns_BadNumber : ∃ b, PySem.W.kitOne K (.ref C_BothSigns) (.ref C_BadNumber) = some b ∧ b = false
  k_BothSigns_HornError : ∃ b, PySem.W.kitOne K (.ref C_BothSigns) (.ref C_HornError) = some b ∧ b = true
  k_BothSigns_TooMany : ∃ b, PySem.W.kitOne K (.ref C_BothSigns) (.ref C_TooMany) = some b ∧ b = false
  k_BothSigns_ValueError : ∃ b, PySem.W.kitOne K (.ref C_BothSigns) (.type "ValueError") = some b ∧ b = true
  k_TooMany_BadLiteral : ∃ b, PySem.W.kitOne K (.ref C_TooMany) (.ref C_BadLiteral) = some b ∧ b = false
  k_TooMany_BadNumber : ∃ b, PySem.W.kitOne K (.ref C_TooMany) (.ref C_BadNumber) = some b ∧ b = false
  k_TooMany_HornError : ∃ b, PySem.W.kitOne K (.ref C_TooMany) (.ref C_HornError) = some b ∧ b = true
  k_TooMany_TooMany : ∃ b, PySem.W.kitOne K (.ref C_TooMany) (.ref C_TooMany) = some b ∧ b = true
  k_TooMany_ValueError : ∃ b, PySem.W.kitOne K (.ref C_TooMany) (.type "ValueError") = some b ∧ b = true
  k_NoClause_BadLiteral : ∃ b, PySem.W.kitOne K (.ref C_NoClause) (.ref C_BadLiteral) = some b ∧ b = false
  k_NoClause_BadNumber : ∃ b, PySem.W.kitOne K (.ref C_NoClause) (.ref C_BadNumber) = some b ∧ b = false
  k_NoClause_HornError : ∃ b, PySem.W.kitOne K (.ref C_NoClause) (.ref C_HornError) = some b ∧ b = true
  k_NoClause_TooMany : ∃ b, PySem.W.kitOne K (.ref C_NoClause) (.ref C_TooMany) = some b ∧ b = false
  k_NoClause_ValueError : ∃ b, PySem.W.kitOne K (.ref C_NoClause) (.type "ValueError") = some b ∧ b = true
  k_BadNumber_BadLiteral : ∃ b, PySem.W.kitOne K (.ref C_BadNumber) (.ref C_BadLiteral) = some b ∧ b = false
  k_BadNumber_BadNumber : ∃ b, PySem.W.kitOne K (.ref C_BadNumber) (.ref C_BadNumber) = some b ∧ b = true
  k_BadNumber_HornError : ∃ b, PySem.W.kitOne K (.ref C_BadNumber) (.ref C_HornError) = some b ∧ b = true
  k_BadNumber_TooMany : ∃ b, PySem.W.kitOne K (.ref C_BadNumber) (.ref C_TooMany) = some b ∧ b = false
  k_BadNumber_ValueError : ∃ b, PySem.W.kitOne K (.ref C_BadNumber) (.type "ValueError") = some b ∧ b = true
  n_NotImplemented : mg "NotImplemented" = none
  n_ValueError : mg "ValueError" = none
  n_all : mg "all" = none
  n_any : mg "any" = none
  n_bool : mg "bool" = none
  n_classmethod : mg "classmethod" = none
  n_enumerate : mg "enumerate" = none
  n_int : mg "int" = none
  n_isinstance : mg "isinstance" = none
  n_iter : mg "iter" = none
  n_len : mg "len" = none
  n_list : mg "list" = none
  n_max : mg "max" = none
  n_property : mg "property" = none
  n_range : mg "range" = none
  n_set : mg "set" = none
  n_sorted : mg "sorted" = none
  n_str : mg "str" = none
  n_super : mg "super" = none
  n_tuple : mg "tuple" = none
/-- the law gets a list of at most 63 ints and hands back True -/
def spLaw (K : PySem.W.Frag) : Sp := fun vs H Q _ => ∃ (a : Addr) (ns : List Int), vs = [.ref a] ∧ SqL K H a (ns.map V.int) ∧ ns.length ≤ 63 ∧ ∀ H', Q (.bl true) H'
section
variable {P : Program} {w : World} {K : PySem.W.Frag} {mg : Str → Option Value} {base : Heap}
/-! ### the source of drawn numbers -/
/-- what stands at b and is not a stands as before -/
def But (a : Addr) (H H' : Hp) : Prop := ∀ b o, b ≠ a → H b = some o → H' b = some o
theorem But.refl {a : Addr} {H : Hp} : But a H H := fun _ _ _ h => h
theorem But.trans {a : Addr} {H H1 H2 : Hp} (x : But a H H1) (y : But a H1 H2) : But a H H2 := fun b o n h => y b o n (x b o n h)
theorem But.upd {a : Addr} {H H1 : Hp} {o : HO} (x : But a H H1) : But a H (upd H1 a o) := fun b u n h => by
  rw [upd_ne n]
  exact x b u n h
theorem But.new {a p : Addr} {H H1 : Hp} {o u : HO} (x : But a H H1) (ha : H1 a = some u) (hp : H1 p = none) : But a H (L2.upd H1 p o) := fun b v n h => by
  rw [upd_ne (ne_of_none (x b v n h) hp)]
  exact x b v n h
theorem But.of {a : Addr} {H H1 : Hp} (x : Same H H1) : But a H H1 := fun b o _ h => x b o h
/-- the script's list at l beside four ints -/
def five (l : Addr) (i x k m : Int) : List V := [.ref l, .int i, .int x, .int k, .int m]
structure SrcL (H : Hp) (a l : Addr) (ns : List Int) : Prop where
  at_ : ∃ i x k m : Int, 0 ≤ i ∧ H a = some (.lst (five l i x k m))
  li : H l = some (.lst (ns.map V.int))
theorem src_ne {H : Hp} {a l : Addr} {ns : List Int} (S : SrcL H a l ns) : l ≠ a := fun e => by
  obtain ⟨i, x, k, m, _, h⟩ := S.at_
  have h2 := S.li
  rw [e, h] at h2
  have h3 := HO.lst.inj (Option.some.inj h2)
  cases ns with
  | nil => exact absurd h3 (by simp [five])
  | cons y r =>
    have h4 := (List.cons.inj h3).1
    cases h4
/-- a source at a -/
def Src (H : Hp) (a : Addr) : Prop := ∃ (l : Addr) (ns : List Int), SrcL H a l ns
theorem Src.keep {H H' : Hp} {a : Addr} (S : Src H a) (k : Same H H') : Src H' a := by
  obtain ⟨l, ns, ⟨i, x, j, m, h0, h⟩, hl⟩ := S
  exact ⟨l, ns, ⟨i, x, j, m, h0, k _ _ h⟩, k _ _ hl⟩
theorem Src.new {H : Hp} {a p : Addr} {o : HO} (S : Src H a) (hp : H p = none) : Src (upd H p o) a := S.keep fun b u h => by
  rw [upd_ne (ne_of_none h hp)]
  exact h
theorem Src.some {H : Hp} {a : Addr} (S : Src H a) : ∃ o, H a = Option.some o := by
  obtain ⟨l, ns, ⟨i, x, k, m, h0, h⟩, hl⟩ := S
  exact ⟨_, h⟩
theorem fmod_lo (x : Int) {m : Int} (h : 1 ≤ m) : 0 ≤ x.fmod m := Int.fmod_nonneg_of_pos x (by omega)
theorem fmod_hi (x : Int) {m : Int} (h : 1 ≤ m) : x.fmod m < m := Int.fmod_lt_of_pos x (by omega)
/-- _law_take(source, many), the script's list named -/
def spTakeL : Sp := fun vs H Q _ => ∃ (a : Addr) (many : Int) (l : Addr) (ns : List Int), vs = [.ref a, .int many] ∧ SrcL H a l ns ∧ 1 ≤ many ∧ many < 2 ^ 64 ∧ ∀ H' r, 0 ≤ r → r < many → SrcL H' a l ns → But a H H' → Q (.int r) H'
theorem okL__law_take (T : Txt P K mg) : FnOk P w K mg base CX0 1 T.f__law_take T.d__law_take ["_law_source_here", "_law_many"] spTakeL := by
  refine T.F__law_take.ok sc__law_take (fun vs H Q E h => ?_) (fun cdv A outer s H vs Q E hr h => ?_)
  · obtain ⟨a, many, l, ns, rfl, _⟩ := h
    rfl
  · obtain ⟨a, many, l, ns, rfl, S, h1, h64, q⟩ := h
    have nla := src_ne S
    obtain ⟨⟨i, x, k, m, hi0, h⟩, hl⟩ := S
    refine ⟨_, (Evl.pss_cut (ps_if (pt_cmpR op_eq (pe_ix ix_list (pv 0) pe_int (fun _ _ => rfl)) pe_int (nomark _)) (pss_cons (ps_if (pt_cmpR op_ge (pe_ix ix_list (pv 0) pe_int (fun _ _ => rfl)) (pe_callB call_len_seq (by rfl) T.n_len PySem.boot_len (pa_cons (pe_ix ix_list (pv 0) pe_int (fun _ _ => rfl)) pa_nil)) (nomark _)) (pss_one (ps_ret pe_int)) pss_nil)
      (pss_cons (ps_set (i := 3) sc__law_take.nd rfl (.inl rfl) (pe_callTy call_int1 (by rfl) T.n_int (by decide +kernel) (pa_cons (pe_ix ix_list (pe_ix ix_list (pv 0) pe_int (fun _ _ => rfl)) (pe_ix ix_list (pv 0) pe_int (fun _ _ => rfl)) (fun _ _ => rfl)) pa_nil)))
      (pss_cons (ps_asg (pe_op op_add (pe_ix ix_list (pv 0) pe_int (fun _ _ => rfl)) pe_int) (pg_sub (pv 0) pe_int set_list))
      (pss_cons (ps_asg (pv 3) (pg_sub (pv 0) pe_int set_list))
      (pss_cons (ps_asg pe_int (pg_sub (pv 0) pe_int set_list))
      (pss_cons (ps_asg pe_int (pg_sub (pv 0) pe_int set_list))
      (pss_one (ps_if (pt_cmpR op_ge (pv 3) (pe_op op_pow pe_int pe_int) (nomark _)) (pss_cons (ps_asg pe_int (pg_sub (pv 0) pe_int set_list))
      (pss_one (ps_asg pe_int (pg_sub (pv 0) pe_int set_list)))) pss_nil)))))))) pss_nil)
      (pss_cons (ps_asg (pe_op op_sub (pe_ix ix_list (pv 0) pe_int (fun _ _ => rfl)) pe_int) (pg_sub (pv 0) pe_int set_list))
      (pss_cons (ps_if (pt_cmpR op_eq (pe_ix ix_list (pv 0) pe_int (fun _ _ => rfl)) pe_int (nomark _)) (pss_cons (ps_set (i := 4) sc__law_take.nd rfl (.inl rfl) (pe_op op_modN (pe_callTy call_int1 (by rfl) T.n_int (by decide +kernel) (pa_cons (pe_ix ix_list (pv 0) pe_int (fun _ _ => rfl)) pa_nil)) (pv 1)))
      (pss_cons (ps_asg (pe_op op_fdivW (pe_ix ix_list (pv 0) pe_int (fun _ _ => rfl)) (pv 1)) (pg_sub (pv 0) pe_int set_list))
      (pss_cons (ps_if (pt_cmpR op_eq (pe_ix ix_list (pv 0) pe_int (fun _ _ => rfl)) pe_int (nomark _)) (pss_one (ps_asg pe_int (pg_sub (pv 0) pe_int set_list))) pss_nil)
      (pss_one (ps_ret (pv 4)))))) pss_nil)
      (pss_cons (ps_set (i := 2) sc__law_take.nd rfl (.inl rfl) (pe_op op_modN (pe_callTy call_int1 (by rfl) T.n_int (by decide +kernel) (pa_cons (pe_op op_add (pe_op op_add (pe_op op_mul (pe_ix ix_list (pv 0) pe_int (fun _ _ => rfl)) pe_int) (pe_op op_mul (pe_ix ix_list (pv 0) pe_int (fun _ _ => rfl)) pe_int)) pe_int) pa_nil)) pe_int))
      (pss_cons (ps_set (i := 2) sc__law_take.nd rfl (.inl rfl) (pe_op op_modN (pe_callTy call_int1 (by rfl) T.n_int (by decide +kernel) (pa_cons (pe_op op_add (pe_op op_add (pe_op op_mul (pv 2) pe_int) (pe_op op_mul (pe_ix ix_list (pv 0) pe_int (fun _ _ => rfl)) pe_int)) pe_int) pa_nil)) pe_int))
      (pss_one (ps_ret (pe_op op_modN (pe_callTy call_int1 (by rfl) T.n_int (by decide +kernel) (pa_cons (pv 2) pa_nil)) (pv 1))))))))), ?_⟩
    refine ⟨fun σ' H' => ∃ (cv : Option V) (i x k m : Int), σ' = [some (.ref a), some (.int many), none, cv, none] ∧ 0 ≤ i ∧ H' a = some (.lst (five l i x k m)) ∧ H' l = some (.lst (ns.map V.int)) ∧ But a H H', ?_, ?_⟩
    · refine ⟨.ref a, rfl, a, _, 3, _, rfl, rfl, SqL.of h, atI_nat (j := 3) rfl, rfl, _, rfl, ite2 (fun e => ?_) (fun e => ?_)⟩
      · refine ⟨.ref a, rfl, a, _, 1, _, rfl, rfl, SqL.of h, atI_nat (j := 1) rfl, .ref a, rfl, a, _, 0, _, rfl, rfl, SqL.of h, atI_nat (j := 0) rfl, l, _, rfl, .inl (SqL.of hl), _, _, rfl, rfl, _, rfl, ite2 (fun e1 => ?_) (fun e1 => ?_)⟩
        · exact q H 0 (by omega) (by omega) ⟨⟨i, x, k, m, hi0, h⟩, hl⟩ But.refl
        · have hin : i.toNat < ns.length := by
            have z : ¬ ((ns.map V.int).length : Int) ≤ i := fun z => e1 (decide_eq_true z)
            rw [List.length_map] at z
            omega
          have hg : (ns.map V.int)[i.toNat]? = some (.int ns[i.toNat]) := by
            rw [List.getElem?_map, List.getElem?_eq_getElem hin]
            rfl
          refine ⟨.ref a, rfl, a, _, 0, _, rfl, rfl, SqL.of h, atI_nat (j := 0) rfl, .ref a, rfl, a, _, 1, _, rfl, rfl, SqL.of h, atI_nat (j := 1) rfl, l, _, i, _, rfl, rfl, SqL.of hl, at_of (by omega) hg, .inl ⟨_, rfl, ?_⟩⟩
          refine ⟨.ref a, rfl, a, _, 1, _, rfl, rfl, SqL.of h, atI_nat (j := 1) rfl, _, _, rfl, rfl, .ref a, rfl, a, _, 1, 1, rfl, rfl, h, rfl, ?_⟩
          refine ⟨_, rfl, .ref a, rfl, a, _, 2, 2, rfl, rfl, upd_same, rfl, ?_⟩
          refine ⟨.ref a, rfl, a, _, 3, 3, rfl, rfl, upd_same, rfl, ?_⟩
          refine ⟨.ref a, rfl, a, _, 4, 4, rfl, rfl, upd_same, rfl, ?_⟩
          refine ⟨_, rfl, _, _, rfl, rfl, ⟨by decide, by decide, by decide⟩, _, _, rfl, rfl, _, rfl, ite2 (fun e2 => ?_) (fun e2 => ?_)⟩
          · refine ⟨.ref a, rfl, a, _, 3, 3, rfl, rfl, upd_same, rfl, .ref a, rfl, a, _, 4, 4, rfl, rfl, upd_same, rfl, ?_⟩
            rw [upd_upd, upd_upd, upd_upd, upd_upd, upd_upd]
            exact ⟨_, i + 1, ns[i.toNat], 60, 1, rfl, by omega, upd_same, by rw [upd_ne nla]; exact hl, But.refl.upd⟩
          · rw [upd_upd, upd_upd, upd_upd]
            exact ⟨_, i + 1, ns[i.toNat], 4, 0, rfl, by omega, upd_same, by rw [upd_ne nla]; exact hl, But.refl.upd⟩
      · exact ⟨_, i, x, k, m, rfl, hi0, h, hl, But.refl⟩
    · rintro σ' H0 ⟨cv, i, x, k, m, rfl, hi0, h, hl, bt⟩
      have hl1 : ∀ o, (upd H0 a o) l = some (.lst (ns.map V.int)) := fun o => by
        rw [upd_ne nla]
        exact hl
      refine ⟨.ref a, rfl, a, _, 3, _, rfl, rfl, SqL.of h, atI_nat (j := 3) rfl, _, _, rfl, rfl, .ref a, rfl, a, _, 3, 3, rfl, rfl, h, rfl, ?_⟩
      have h2 : (upd H0 a (.lst ((five l i x k m).set 3 (.int (k - 1))))) a = some (.lst (five l i x (k - 1) m)) := upd_same
      refine ⟨.ref a, rfl, a, _, 4, _, rfl, rfl, SqL.of h2, atI_nat (j := 4) rfl, rfl, _, rfl, ite2 (fun e => ?_) (fun e => ?_)⟩
      · refine ⟨.ref a, rfl, a, _, 2, _, rfl, rfl, SqL.of h2, atI_nat (j := 2) rfl, .inl ⟨_, rfl, _, rfl, _, _, rfl, rfl, by omega, ?_⟩⟩
        refine ⟨.ref a, rfl, a, _, 2, _, rfl, rfl, SqL.of h2, atI_nat (j := 2) rfl, _, rfl, _, _, rfl, rfl, wide_div (b := 64) (by omega) (by omega) (by decide) (by decide), .ref a, rfl, a, _, 2, 2, rfl, rfl, h2, rfl, ?_⟩
        have h3 : ∀ o, (upd (upd H0 a o) a (.lst ((five l i x (k - 1) m).set 2 (.int (x / many))))) a = some (.lst (five l i (x / many) (k - 1) m)) := fun o => upd_same
        refine ⟨.ref a, rfl, a, _, 2, _, rfl, rfl, SqL.of (h3 _), atI_nat (j := 2) rfl, rfl, _, rfl, ite2 (fun e3 => ?_) (fun e3 => ?_)⟩
        · refine ⟨.ref a, rfl, a, _, 3, 3, rfl, rfl, upd_same, rfl, ?_⟩
          rw [upd_upd, upd_upd]
          exact ⟨_, rfl, q _ _ (fmod_lo x h1) (fmod_hi x h1) ⟨⟨i, x / many, 0, m, hi0, upd_same⟩, hl1 _⟩ bt.upd⟩
        · rw [upd_upd]
          exact ⟨_, rfl, q _ _ (fmod_lo x h1) (fmod_hi x h1) ⟨⟨i, x / many, k - 1, m, hi0, upd_same⟩, hl1 _⟩ bt.upd⟩
      · refine ⟨.ref a, rfl, a, _, 2, _, rfl, rfl, SqL.of h2, atI_nat (j := 2) rfl, _, _, rfl, rfl, .inr ⟨by decide, by decide⟩, .ref a, rfl, a, _, 3, _, rfl, rfl, SqL.of h2, atI_nat (j := 3) rfl, _, _, rfl, rfl, .inr ⟨by decide, by decide⟩, _, _, rfl, rfl, _, _, rfl, rfl, .inl ⟨_, rfl, _, _, rfl, rfl, (show (2147483647 : Int) ≠ 0 by decide), ?_⟩⟩
        refine ⟨_, rfl, _, _, rfl, rfl, .inr ⟨by decide, by decide⟩, .ref a, rfl, a, _, 3, _, rfl, rfl, SqL.of h2, atI_nat (j := 3) rfl, _, _, rfl, rfl, .inr ⟨by decide, by decide⟩, _, _, rfl, rfl, _, _, rfl, rfl, .inl ⟨_, rfl, _, _, rfl, rfl, (show (2147483629 : Int) ≠ 0 by decide), ?_⟩⟩
        refine ⟨_, rfl, .inl ⟨_, rfl, _, rfl, _, _, rfl, rfl, by omega, ?_⟩⟩
        exact q _ _ (fmod_lo _ h1) (fmod_hi _ h1) ⟨⟨i, x, k - 1, m, hi0, h2⟩, hl1 _⟩ bt.upd
/-- _law_source(script) -/
def spSource (K : PySem.W.Frag) : Sp := fun vs H Q _ => ∃ (a : Addr) (ns : List Int), vs = [.ref a] ∧ SqL K H a (ns.map V.int) ∧ ∀ H' p, Src H' p → H p = none → Same H H' → Q (.ref p) H'
theorem ok__law_source (T : Txt P K mg) : FnOk P w K mg base CX0 1 T.f__law_source T.d__law_source ["_law_script"] (spSource K) := by
  refine T.F__law_source.ok sc__law_source (fun vs H Q E h => ?_) (fun cdv A outer s H vs Q E hr h => ?_)
  · obtain ⟨a, ns, rfl, _⟩ := h
    rfl
  · obtain ⟨a, ns, rfl, S, q⟩ := h
    refine ⟨_, (pss_one (ps_ret (pe_lst (pa_cons (pe_callTy call_list_of (by rfl) T.n_list (by decide +kernel) (pa_cons (pv 0) pa_nil)) (pa_cons pe_int (pa_cons pe_int (pa_cons pe_int (pa_cons pe_int pa_nil)))))))), ?_⟩
    refine ⟨_, rfl, a, _, rfl, .inl S, fun l nl => ⟨(by show 5 ≤ sizeLine; decide), fun p np => ?_⟩⟩
    have lp : l ≠ p := fun e => by
      rw [e, upd_same] at np
      cases np
    have np0 : H p = none := by
      rw [upd_ne lp.symm] at np
      exact np
    refine q _ p ⟨l, ns, ⟨⟨0, 0, 0, 0, by decide, upd_same⟩, ?_⟩⟩ np0 fun b o e => ?_
    · rw [upd_ne lp, upd_same]
    · rw [upd_ne (ne_of_none e np0), upd_ne (ne_of_none e nl)]
      exact e
/-! ### answers of pure defs -/
def isBl : V → Bool
  | .bl _ => true
  | _ => false
def isIn : V → Bool
  | .int _ => true
  | _ => false
def isSt : V → Bool
  | .str _ => true
  | _ => false
def flat4 : V → Bool
  | .non => true
  | .bl _ => true
  | .int _ => true
  | .str _ => true
  | _ => false
theorem kit_flat {K : PySem.W.Frag} {x : V} (h : flat4 x = true) : ∃ t : String, (∀ H, TyX K H x (.type t)) ∧ kitB t "bool" = some (isBl x) ∧ kitB t "int" = some (isBl x || isIn x) ∧ kitB t "str" = some (isSt x) ∧ kitB t "list" = some false ∧ kitB t "tuple" = some false := by
  cases x with
  | non => exact ⟨"NoneType", fun _ => .base .non, by decide +kernel, by decide +kernel, by decide +kernel, by decide +kernel, by decide +kernel⟩
  | bl b => exact ⟨"bool", fun _ => .base (.bl b), (show kitB "bool" "bool" = some true by decide +kernel), (show kitB "bool" "int" = some true by decide +kernel), (show kitB "bool" "str" = some false by decide +kernel), (show kitB "bool" "list" = some false by decide +kernel), (show kitB "bool" "tuple" = some false by decide +kernel)⟩
  | int i => exact ⟨"int", fun _ => .base (.int i), (show kitB "int" "bool" = some false by decide +kernel), (show kitB "int" "int" = some true by decide +kernel), (show kitB "int" "str" = some false by decide +kernel), (show kitB "int" "list" = some false by decide +kernel), (show kitB "int" "tuple" = some false by decide +kernel)⟩
  | str z => exact ⟨"str", fun _ => .base (.str z), (show kitB "str" "bool" = some false by decide +kernel), (show kitB "str" "int" = some false by decide +kernel), (show kitB "str" "str" = some true by decide +kernel), (show kitB "str" "list" = some false by decide +kernel), (show kitB "str" "tuple" = some false by decide +kernel)⟩
  | byt b => cases h
  | flt b => cases h
  | ref a => cases h
  | ty n => cases h
open Evl in
theorem ev_isi {σ : L2.St} {H : Hp} {ta : TE} {x : V} {t c : String} {b : Bool} (h : Ev ta σ H x) (ht : ∀ H, TyX K H x (.type t)) (hk : kitB t c = some b) : Ev (tCB (rIsi K) (tCons ta (tCons (tC (.ty c)) tNil))) σ H (.bl b) :=
  ev_cb (ea_cons h (ea_cons ev_c ea_nil)) fun H1 _ Q q => ⟨x, .ty c, .type t, .type c, b, rfl, .ty c, ht H1, kit_ty hk, q H1 (Ex.refl H1)⟩
/-- _law_same(one, other) of two flat things -/
def spSame : Sp := fun vs H Q _ => ∃ x y, vs = [x, y] ∧ flat4 x = true ∧ flat4 y = true ∧ ∀ H', Evl.Ex H H' → Q (.bl (decide (x = y))) H'
theorem ne_bl {x y : V} (h : isBl x = true) (h2 : isBl y = false) : x ≠ y := fun e => by
  rw [e, h2] at h
  cases h
theorem scal_flat {x y : V} (hx : flat4 x = true) (hy : flat4 y = true) (h : (isBl x = true ∧ isBl y = true) ∨ (isIn x = true ∧ isIn y = true) ∨ (isSt x = true ∧ isSt y = true)) : scal x y = true := by
  cases x <;> cases y <;> first | rfl | (simp [isBl, isIn, isSt] at h) | cases hx | cases hy
theorem non_of {x : V} (h : flat4 x = true) (h1 : isBl x = false) (h2 : isIn x = false) (h3 : isSt x = false) : x = .non := by
  cases x with
  | non => rfl
  | bl b => cases h1
  | int i => cases h2
  | str z => cases h3
  | byt b => cases h
  | flt b => cases h
  | ref a => cases h
  | ty n => cases h
--@HOT ok__law_same
open Evl in
theorem ok__law_same (T : Txt P K mg) : FnOk P w K mg base CX0 1 T.f__law_same T.d__law_same ["_law_one", "_law_other"] spSame := by
  refine T.F__law_same.ok sc__law_same (fun vs H Q E h => ?_) (fun cdv A outer s H vs Q E hr h => ?_)
  · obtain ⟨x, y, rfl, _⟩ := h
    rfl
  · obtain ⟨x, y, rfl, hx, hy, q⟩ := h
    obtain ⟨tx, kx, bx, ix, sx, lx, ux⟩ := kit_flat (K := K) hx
    obtain ⟨ty, ky, by_, iy, sy, ly, uy⟩ := kit_flat (K := K) hy
    have vx : ∀ (σ : L2.St) (H : Hp), σ[0]? = some (some x) → Ev (tVar 0) σ H x := fun σ H e => ev_var e
    have vy : ∀ (σ : L2.St) (H : Hp), σ[1]? = some (some y) → Ev (tVar 1) σ H y := fun σ H e => ev_var e
    refine ⟨_, (pss_cons (ps_if (PW.pt (pw_or (pt_val (pe_callB call_isi (by rfl) T.n_isinstance (by decide +kernel) (pa_cons (pv 0) (pa_cons (pe_bltn (v := .ty "bool") (u := .type "bool") (by rfl) T.n_bool (by decide +kernel) rfl) pa_nil)))) (pw_or1 (pt_val (pe_callB call_isi (by rfl) T.n_isinstance (by decide +kernel) (pa_cons (pv 1) (pa_cons (pe_bltn (v := .ty "bool") (u := .type "bool") (by rfl) T.n_bool (by decide +kernel) rfl) pa_nil))))))) (pss_one (ps_ret (pe_and (pe_callB call_isi (by rfl) T.n_isinstance (by decide +kernel) (pa_cons (pv 0) (pa_cons (pe_bltn (v := .ty "bool") (u := .type "bool") (by rfl) T.n_bool (by decide +kernel) rfl) pa_nil))) (pe_and (pe_callB call_isi (by rfl) T.n_isinstance (by decide +kernel) (pa_cons (pv 1) (pa_cons (pe_bltn (v := .ty "bool") (u := .type "bool") (by rfl) T.n_bool (by decide +kernel) rfl) pa_nil))) (pe_one (pe_cmpR op_eq (pv 0) (pv 1) (nomark _))))))) pss_nil)
      (pss_cons (ps_if (PW.pt (pw_or (pt_val (pe_callB call_isi (by rfl) T.n_isinstance (by decide +kernel) (pa_cons (pv 0) (pa_cons (pe_bltn (v := .ty "int") (u := .type "int") (by rfl) T.n_int (by decide +kernel) rfl) pa_nil)))) (pw_or1 (pt_val (pe_callB call_isi (by rfl) T.n_isinstance (by decide +kernel) (pa_cons (pv 1) (pa_cons (pe_bltn (v := .ty "int") (u := .type "int") (by rfl) T.n_int (by decide +kernel) rfl) pa_nil))))))) (pss_one (ps_ret (pe_and (pe_callB call_isi (by rfl) T.n_isinstance (by decide +kernel) (pa_cons (pv 0) (pa_cons (pe_bltn (v := .ty "int") (u := .type "int") (by rfl) T.n_int (by decide +kernel) rfl) pa_nil))) (pe_and (pe_callB call_isi (by rfl) T.n_isinstance (by decide +kernel) (pa_cons (pv 1) (pa_cons (pe_bltn (v := .ty "int") (u := .type "int") (by rfl) T.n_int (by decide +kernel) rfl) pa_nil))) (pe_one (pe_cmpR op_eq (pv 0) (pv 1) (nomark _))))))) pss_nil)
      (pss_cons (ps_if (PW.pt (pw_or (pt_val (pe_callB call_isi (by rfl) T.n_isinstance (by decide +kernel) (pa_cons (pv 0) (pa_cons (pe_bltn (v := .ty "str") (u := .type "str") (by rfl) T.n_str (by decide +kernel) rfl) pa_nil)))) (pw_or1 (pt_val (pe_callB call_isi (by rfl) T.n_isinstance (by decide +kernel) (pa_cons (pv 1) (pa_cons (pe_bltn (v := .ty "str") (u := .type "str") (by rfl) T.n_str (by decide +kernel) rfl) pa_nil))))))) (pss_one (ps_ret (pe_and (pe_callB call_isi (by rfl) T.n_isinstance (by decide +kernel) (pa_cons (pv 0) (pa_cons (pe_bltn (v := .ty "str") (u := .type "str") (by rfl) T.n_str (by decide +kernel) rfl) pa_nil))) (pe_and (pe_callB call_isi (by rfl) T.n_isinstance (by decide +kernel) (pa_cons (pv 1) (pa_cons (pe_bltn (v := .ty "str") (u := .type "str") (by rfl) T.n_str (by decide +kernel) rfl) pa_nil))) (pe_one (pe_cmpR op_eq (pv 0) (pv 1) (nomark _))))))) pss_nil)
      (pss_cons (ps_set (i := 2) sc__law_same.nd rfl (.inl rfl) (pe_and (pe_callB call_isi (by rfl) T.n_isinstance (by decide +kernel) (pa_cons (pv 0) (pa_cons (pe_bltn (v := .ty "list") (u := .type "list") (by rfl) T.n_list (by decide +kernel) rfl) pa_nil))) (pe_one (pe_callB call_isi (by rfl) T.n_isinstance (by decide +kernel) (pa_cons (pv 1) (pa_cons (pe_bltn (v := .ty "list") (u := .type "list") (by rfl) T.n_list (by decide +kernel) rfl) pa_nil))))))
      (pss_cons (ps_if (PW.pt (pw_and (pt_not (pt_val (pv 2))) (pw_and1 (pt_not (PW.pt (pw_and (pt_val (pe_callB call_isi (by rfl) T.n_isinstance (by decide +kernel) (pa_cons (pv 0) (pa_cons (pe_bltn (v := .ty "tuple") (u := .type "tuple") (by rfl) T.n_tuple (by decide +kernel) rfl) pa_nil)))) (pw_and1 (pt_val (pe_callB call_isi (by rfl) T.n_isinstance (by decide +kernel) (pa_cons (pv 1) (pa_cons (pe_bltn (v := .ty "tuple") (u := .type "tuple") (by rfl) T.n_tuple (by decide +kernel) rfl) pa_nil))))))))))) (pss_one (ps_ret (pe_and (pe_cmpR op_isN (pv 0) pe_non (nomark _)) (pe_one (pe_cmpR op_isN (pv 1) pe_non (nomark _)))))) pss_nil)
      (pss_one ps_never)))))), ?_⟩
    have cmp : ∀ (σ : L2.St) (H1 : Hp), σ[0]? = some (some x) → σ[1]? = some (some y) → scal x y = true → Ev (tOp rEq (tVar 0) (tVar 1)) σ H1 (.bl (decide (x = y))) := fun σ H1 e0 e1 hs => ev_op (ev_var e0) (ev_var e1) (rv_eq hs)
    refine q_when (et_or (et_B (ev_isi (vx _ _ rfl) kx bx)) (fun _ => et_B (ev_isi (vy _ _ rfl) ky by_))) (fun hb H1 e1 => ?_) (fun hb H1 e1 => ?_)
    · refine s_ret (v := .bl (decide (x = y))) (ev_is (ev_andV (ev_isi (vx _ _ rfl) kx bx) (fun h1 => ev_andV (b := decide (x = y)) (ev_isi (vy _ _ rfl) ky by_) (fun h2 => cmp _ _ rfl rfl (scal_flat hx hy (.inl ⟨h1, h2⟩))))) ?_) (fun H2 e2 => q H2 (e1.trans e2))
      cases h1 : isBl x with
      | true =>
        cases h2 : isBl y with
        | true => rfl
        | false => rw [decide_eq_false (ne_bl h1 h2)]; rfl
      | false =>
        rw [h1] at hb
        have h2 : isBl y = true := hb
        rw [decide_eq_false (ne_bl h2 h1).symm]
        rfl
    · have nb : isBl x = false ∧ isBl y = false := by simpa using hb
      rw [nb.1] at ix
      rw [nb.2] at iy
      refine q_when (et_or (et_B (ev_isi (vx _ _ rfl) kx ix)) (fun _ => et_B (ev_isi (vy _ _ rfl) ky iy))) (fun hi H2 e2 => ?_) (fun hi H2 e2 => ?_)
      · refine s_ret (v := .bl (decide (x = y))) (ev_is (ev_andV (ev_isi (vx _ _ rfl) kx ix) (fun h1 => ev_andV (b := decide (x = y)) (ev_isi (vy _ _ rfl) ky iy) (fun h2 => cmp _ _ rfl rfl (scal_flat hx hy (.inr (.inl ⟨h1, h2⟩)))))) ?_) (fun H3 e3 => q H3 ((e1.trans e2).trans e3))
        cases x <;> cases y <;> simp_all [isIn, isBl]
      · have ni : isIn x = false ∧ isIn y = false := by simpa using hi
        refine q_when (et_or (et_B (ev_isi (vx _ _ rfl) kx sx)) (fun _ => et_B (ev_isi (vy _ _ rfl) ky sy))) (fun hs H3 e3 => ?_) (fun hs H3 e3 => ?_)
        · refine s_ret (v := .bl (decide (x = y))) (ev_is (ev_andV (ev_isi (vx _ _ rfl) kx sx) (fun h1 => ev_andV (b := decide (x = y)) (ev_isi (vy _ _ rfl) ky sy) (fun h2 => cmp _ _ rfl rfl (scal_flat hx hy (.inr (.inr ⟨h1, h2⟩)))))) ?_) (fun H4 e4 => q H4 (((e1.trans e2).trans e3).trans e4))
          cases x <;> cases y <;> simp_all [isSt, isBl]
        · have ns : isSt x = false ∧ isSt y = false := by simpa using hs
          have xn : x = .non := non_of hx nb.1 ni.1 ns.1
          have yn : y = .non := non_of hy nb.2 ni.2 ns.2
          refine q_asg (v := .bl false) (ev_is (ev_andV (b := false) (ev_isi (vx _ _ rfl) kx lx) (fun _ => ev_isi (vy _ _ rfl) ky ly)) rfl) (fun H4 e4 => ?_)
          refine q_when (b := true) (et_is (et_and (et_not (et_B (ev_var rfl))) (fun _ => et_not (et_and (b := false) (et_B (ev_isi (vx _ _ rfl) kx ux)) (fun _ => et_B (ev_isi (vy _ _ rfl) ky uy))))) rfl) (fun _ H5 e5 => ?_) (fun hf => by cases hf)
          refine s_ret (v := .bl true) (ev_is (ev_andV (a := true) (b := true) (ev_op (vx _ _ rfl) ev_c (fun H6 _ Q' q' => ⟨rfl, ?_⟩)) (fun _ => ev_op (vy _ _ rfl) ev_c (fun H6 _ Q' q' => ⟨rfl, ?_⟩))) rfl) (fun H6 e6 => ?_)
          · rw [xn]
            exact q' H6 (Ex.refl H6)
          · rw [yn]
            exact q' H6 (Ex.refl H6)
          · have z := q H6 (((((e1.trans e2).trans e3).trans e4).trans e5).trans e6)
            rw [xn, yn] at z
            exact z
--@COLD
/-! ### texts -/
/-- a text of at most n signs, each below 128 -/
def Txt8 (n : Nat) (z : Str) : Prop := z.cps.size ≤ n ∧ ∀ c ∈ z.cps.toList, c < 128
theorem Txt8.app {n m : Nat} {x y : Str} (a : Txt8 n x) (b : Txt8 m y) : Txt8 (n + m) (x ++ y) := by
  have e : (x ++ y).cps = x.cps ++ y.cps := rfl
  refine ⟨?_, fun c hc => ?_⟩
  · rw [e, Array.size_append]
    have h1 := a.1
    have h2 := b.1
    omega
  · rw [e, Array.toList_append] at hc
    rcases List.mem_append.mp hc with h | h
    · exact a.2 c h
    · exact b.2 c h
theorem Txt8.mono {n m : Nat} {x : Str} (a : Txt8 n x) (h : n ≤ m) : Txt8 m x := ⟨Nat.le_trans a.1 h, a.2⟩
theorem Txt8.cut {n : Nat} {x : Str} (a : Txt8 n x) (lo hi : Option Int) : Txt8 n (cutS x lo hi) := by
  have e : (cutS x lo hi).cps.toList = (x.cps.toList.drop (HT.sIx x.length 0 lo)).take (HT.sIx x.length x.length hi - HT.sIx x.length 0 lo) := rfl
  refine ⟨?_, fun c hc => ?_⟩
  · rw [← Array.length_toList, e]
    have h1 := List.length_take_le (HT.sIx x.length x.length hi - HT.sIx x.length 0 lo) (x.cps.toList.drop (HT.sIx x.length 0 lo))
    have h2 := List.length_drop (i := HT.sIx x.length 0 lo) (l := x.cps.toList)
    have h3 : x.cps.toList.length ≤ n := by
      rw [Array.length_toList]
      exact a.1
    have h4 : ((x.cps.toList.drop (HT.sIx x.length 0 lo)).take (HT.sIx x.length x.length hi - HT.sIx x.length 0 lo)).length ≤ (x.cps.toList.drop (HT.sIx x.length 0 lo)).length := List.length_take_le' ..
    omega
  · rw [e] at hc
    exact a.2 c (List.mem_of_mem_drop (List.mem_of_mem_take hc))
theorem Txt8.sign {z : Str} {i c : Nat} (h : z.cps[i]? = some c) (a : ∀ c ∈ z.cps.toList, c < 128) : Txt8 1 ⟨#[c]⟩ := by
  refine ⟨Nat.le_refl _, fun d hd => ?_⟩
  have e : d = c := by simpa using hd
  rw [e]
  refine a c ?_
  rw [← Array.getElem?_toList] at h
  exact List.mem_of_getElem? h
theorem line_of {n : Nat} (h : n ≤ 1000) : n ≤ sizeLine := Nat.le_of_lt (small1000 h)
/-- an item of a written text -/
theorem item_of {z : Str} {r n : Int} (h0 : 0 ≤ r) (h : r < n) (hn : (z.cps.size : Int) = n) (ha : ∀ c ∈ z.cps.toList, c < 128) : ∃ c, z.cps[r.toNat]? = some c ∧ r < z.length ∧ Txt8 1 ⟨#[c]⟩ := by
  have hl : r.toNat < z.cps.size := by omega
  have e : z.cps[r.toNat]? = some z.cps[r.toNat] := Array.getElem?_eq_getElem hl
  exact ⟨_, e, by show r < (z.cps.size : Int); omega, Txt8.sign e ha⟩
/-! ### names and literals: the mathematics -/
def ltr (c : Nat) : Bool := decide (c ∈ ("abcdefghijklmnopqrstuvwxyz" : Str).cps.toList)
def dig (c : Nat) : Bool := decide (c ∈ ("0123456789" : Str).cps.toList)
def lod (c : Nat) : Bool := decide (c ∈ ("abcdefghijklmnopqrstuvwxyz0123456789" : Str).cps.toList)
theorem lod_eq (c : Nat) : lod c = (ltr c || dig c) := by
  have e : ("abcdefghijklmnopqrstuvwxyz0123456789" : Str).cps.toList = ("abcdefghijklmnopqrstuvwxyz" : Str).cps.toList ++ ("0123456789" : Str).cps.toList := by decide +kernel
  unfold lod ltr dig
  rw [e, ← Bool.decide_or]
  exact decide_eq_decide.mpr List.mem_append
/-- is it a name -/
def nameL (l : List Nat) : Bool := decide (1 ≤ l.length) && (decide (l.length ≤ 8) && ((l.head?.any ltr) && l.all lod))
def isName (z : Str) : Bool := nameL z.cps.toList
/-- begins it with a minus -/
def dashL (l : List Nat) : Bool := l.head? == some 45
def dash (z : Str) : Bool := dashL z.cps.toList
def Sl (l : List Nat) : Str := ⟨l.toArray⟩
/-- without its minus -/
def bare (z : Str) : Str := if dash z = true then Sl (z.cps.toList.drop 1) else z
theorem str_eq {x y : Str} (h : x.cps.toList = y.cps.toList) : x = y := by
  cases x with
  | mk a =>
    cases y with
    | mk b => rw [show a = b from Array.toList_inj.mp h]
theorem cut_1 (z : Str) : (cutS z none (some 1)).cps.toList = z.cps.toList.take 1 := by
  have e : HT.sIx z.length z.length (some 1) = min 1 z.length := HT.sIx_nat z.length z.length 1
  have l : z.cps.toList.length = z.length := Array.length_toList
  show ((z.cps.toList.drop (HT.sIx z.length 0 none)).take (HT.sIx z.length z.length (some 1) - HT.sIx z.length 0 none)).toArray.toList = _
  rw [e, HT.sIx_none, List.drop_zero, Nat.sub_zero]
  show List.take (min 1 z.length) z.cps.toList = _
  rw [← l, ← List.take_take, List.take_length]
theorem cut_from1 (z : Str) : (cutS z (some 1) none).cps.toList = z.cps.toList.drop 1 := by
  have e : HT.sIx z.length 0 (some 1) = min 1 z.length := HT.sIx_nat z.length 0 1
  have l : z.cps.toList.length = z.length := Array.length_toList
  show ((z.cps.toList.drop (HT.sIx z.length 0 (some 1))).take (HT.sIx z.length z.length none - HT.sIx z.length 0 (some 1))).toArray.toList = _
  rw [e, HT.sIx_none]
  show List.take (z.length - min 1 z.length) (z.cps.toList.drop (min 1 z.length)) = _
  rw [← l]
  cases z.cps.toList with
  | nil => rfl
  | cons c r =>
    rw [show min 1 (c :: r).length = 1 by rw [List.length_cons]; omega]
    show List.take ((c :: r).length - 1) r = r
    rw [List.length_cons, Nat.add_sub_cancel]
    exact List.take_length
theorem dash_cut (z : Str) : decide (V.str (cutS z none (some 1)) = V.str "-") = dash z := by
  unfold dash dashL
  by_cases h : z.cps.toList.head? = some 45
  · rw [show (z.cps.toList.head? == some 45) = true by rw [h]; rfl]
    refine decide_eq_true (congrArg V.str (str_eq ?_))
    rw [cut_1]
    cases e : z.cps.toList with
    | nil => rw [e] at h; cases h
    | cons c r =>
      rw [e] at h
      rw [show c = 45 from Option.some.inj h]
      rfl
  · rw [show (z.cps.toList.head? == some 45) = false from beq_eq_false_iff_ne.mpr h]
    refine decide_eq_false fun q => h ?_
    have q2 := congrArg (fun y : Str => y.cps.toList) (V.str.inj q)
    have q3 : z.cps.toList.take 1 = [45] := by
      rw [← cut_1]
      exact q2
    cases e : z.cps.toList with
    | nil => rw [e] at q3; cases q3
    | cons c r =>
      rw [e] at q3
      exact congrArg some (List.cons.inj q3).1
theorem bare_cut {z : Str} (h : dash z = true) : cutS z (some 1) none = bare z := by
  unfold bare
  rw [if_pos h]
  refine str_eq ?_
  rw [cut_from1]
  rfl
theorem bare_no {z : Str} (h : dash z = false) : bare z = z := by
  unfold bare
  rw [h, if_neg Bool.false_ne_true]
theorem bare_rp (z : Str) : Txt.removeprefix z "-" = bare z := by
  rw [PySem.StrLaws.removeprefix_eq, PySem.StrLaws.subAt_eq]
  have l : z.cps.toList.length = z.length := Array.length_toList
  have one : ("-" : Str).length = 1 := by decide
  have cp : ("-" : Str).cps.toList = [45] := by decide
  rw [one, cp, List.drop_zero]
  unfold bare dash dashL
  cases e : z.cps.toList with
  | nil =>
    rw [if_neg (by simp), if_neg (by simp)]
  | cons c r =>
    have hl : z.length = r.length + 1 := by
      rw [← l, e, List.length_cons]
    by_cases h : c = 45
    · subst h
      rw [if_pos (by rw [hl]; simp), if_pos (by rfl)]
      refine str_eq ?_
      show List.take (z.length - 1) (List.drop 1 (45 :: r)) = List.drop 1 (45 :: r)
      rw [hl, Nat.add_sub_cancel]
      exact List.take_length
    · rw [if_neg (by simp [h]), if_neg (by simp [h])]
theorem bare_len (z : Str) : (bare z).cps.size ≤ z.cps.size := by
  unfold bare
  by_cases h : dash z = true
  · rw [if_pos h]
    show (z.cps.toList.drop 1).toArray.size ≤ _
    rw [List.size_toArray, List.length_drop, Array.length_toList]
    omega
  · rw [if_neg h]
    exact Nat.le_refl _
theorem bare_same (z : Str) : decide (bare z = z) = !dash z := by
  by_cases hd : dash z = true
  · rw [hd]
    refine decide_eq_false fun q => ?_
    have q2 := congrArg (fun y : Str => y.cps.toList.length) q
    unfold bare at q2
    rw [if_pos hd] at q2
    have q3 : (z.cps.toList.drop 1).length = z.cps.toList.length := q2
    rw [List.length_drop] at q3
    unfold dash dashL at hd
    cases e : z.cps.toList with
    | nil => rw [e] at hd; cases hd
    | cons c r => rw [e, List.length_cons] at q3; omega
  · have hd2 : dash z = false := by simpa using hd
    rw [bare_no hd2, hd2]
    exact decide_eq_true rfl
def isLit (z : Str) : Bool := isName (bare z)
/-- the other sign -/
def flip (z : Str) : Str := if dash z = true then bare z else "-" ++ z
/-! ### further answers -/
open Evl in
theorem rv_inS {H : Hp} {c : Nat} {z : Str} : RV (fun x y H Q => ∃ (c : Nat) (z : Str), x = .str ⟨#[c]⟩ ∧ y = .str z ∧ Q (.bl (decide (c ∈ z.cps.toList))) H) (.str ⟨#[c]⟩) (.str z) H (.bl (decide (c ∈ z.cps.toList))) := fun H1 _ _ q => ⟨c, z, rfl, rfl, q H1 (Ex.refl H1)⟩
open Evl in
theorem rv_notInS {H : Hp} {c : Nat} {z : Str} : RV (fun x y H Q => ∃ (c : Nat) (z : Str), x = .str ⟨#[c]⟩ ∧ y = .str z ∧ Q (.bl (!decide (c ∈ z.cps.toList))) H) (.str ⟨#[c]⟩) (.str z) H (.bl (!decide (c ∈ z.cps.toList))) := fun H1 _ _ q => ⟨c, z, rfl, rfl, q H1 (Ex.refl H1)⟩
open Evl in
theorem rv_itemS {H : Hp} {c : Nat} {z : Str} {i : Nat} (h : z.cps[i]? = some c) (hz : z.cps.size ≤ 100000) : RV (fun x y H Q => ∃ z i c, x = .str z ∧ y = .int i ∧ 0 ≤ i ∧ i < 2 ^ 63 ∧ i < z.length ∧ z.cps[i.toNat]? = some c ∧ Q (.str ⟨#[c]⟩) H) (.str z) (.int (i : Int)) H (.str ⟨#[c]⟩) := fun H1 _ _ q => by
  have hl := (Array.getElem?_eq_some_iff.mp h).1
  have e : (z.length : Nat) = z.cps.size := rfl
  exact ⟨z, i, c, rfl, rfl, by omega, by omega, by omega, by rw [Int.toNat_natCast]; exact h, q H1 (Ex.refl H1)⟩
open Evl in
theorem ev_lenS {σ : L2.St} {H : Hp} {ta : TE} {z : Str} (h : Ev ta σ H (.str z)) (hz : z.cps.size ≤ 100000) : Ev (tCB (fun xs H Q => ∃ z, xs = [V.str z] ∧ z.length ≤ sizeLine ∧ Q (.int z.length) H) (tCons ta tNil)) σ H (.int (z.cps.size : Int)) :=
  ev_cb (ea_cons h ea_nil) fun H1 _ Q q => ⟨z, rfl, sz_of hz, q H1 (Ex.refl H1)⟩
open Evl in
theorem ev_chain {σ : L2.St} {H : Hp} {r r' : R2} {ta tb tc : TE} {x y z : V} {a b : Bool} (ha : Ev ta σ H x) (hb : Ev tb σ H y) (hr : RV r x y H (.bl a)) (h2 : a = true → Ev tc σ H z) (h3 : a = true → RV r' y z H (.bl b)) : Ev (tChain r r' ta tb tc) σ H (.bl (a && b)) := fun H1 e Q q =>
  ha H1 e _ fun H2 e2 => hb H2 (e.trans e2) _ fun H3 e3 => hr H3 ((e.trans e2).trans e3) _ fun H4 e4 => ⟨a, rfl, by
    cases a with
    | true =>
      refine iteT ?_
      exact h2 rfl H4 (((e.trans e2).trans e3).trans e4) _ fun H5 e5 => h3 rfl H5 ((((e.trans e2).trans e3).trans e4).trans e5) Q fun H6 e6 => q H6 ((((e2.trans e3).trans e4).trans e5).trans e6)
    | false =>
      refine iteF ?_
      exact q H4 ((e2.trans e3).trans e4)⟩
open Evl in
theorem ev_all {σ : L2.St} {H : Hp} {tl : TE} {bs : List Bool} (h : EvL tl σ H (bs.map V.bl)) : Ev (tCB (rAll K) (tCons tl tNil)) σ H (.bl (bs.all id)) := fun H1 e Q q =>
  h H1 e _ fun p H2 _ e2 hp => ⟨p, bs, rfl, sq_of hp, q H2 e2⟩
open Evl in
/-- [e for c in a text] -/
theorem el_lcS {σ : L2.St} {H : Hp} {z : Str} {tl te : TE} {j : Nat} {vs : List Nat} (f : Nat → V) (h : Ev tl σ H (.str z)) (hz : z.cps.size ≤ 40000) (hw : ∀ x, wipe ((wipe σ vs).set j (some x)) vs = wipe σ vs)
    (he : ∀ (c : Nat) H1, Ex H H1 → c ∈ z.cps.toList → Ev te ((wipe σ vs).set j (some (.str ⟨#[c]⟩))) H1 (f c)) : EvL (tLc (iStr tl) (gName j) tYes te vs) σ H (z.cps.toList.map f) := fun H0 e Q q => h H0 e _ fun H1 e1 => ⟨z, rfl, fun Dl hD => by
  refine lc_it walk_str (fun i H' => H1 Dl = none ∧ Ex H1 H' ∧ H' Dl = some (.lst ((z.cps.toList.take i).map f))) ⟨hD, Ex.new hD, upd_same⟩ (fun _ _ _ _ => trivial) ?_ ?_
  · rintro i x H2 H3 hi ⟨p1, p2, p3⟩ ⟨rfl, c, hc, rfl⟩
    have hc2 : z.cps.toList[i]? = some c := by
      rw [Array.getElem?_toList]
      exact hc
    have hm : c ∈ z.cps.toList := List.mem_of_getElem? hc2
    refine ⟨hw _, ?_⟩
    unfold tYes
    dsimp only
    rw [if_pos rfl]
    refine he c H1 (e.trans e1) hm H3 p2 _ fun H4 e4 => ⟨_, e4 _ _ p3, ?_, p1, Ex.mut (p2.trans e4) p1, ?_⟩
    · rw [List.length_map]
      exact sz_lt (by have := List.length_take_le i z.cps.toList; omega)
    · rw [List.take_add_one, hc2, List.map_append]
      exact upd_same
  · rintro H2 ⟨p1, p2, p3⟩
    have ef : z.cps.toList.take z.cps.size = z.cps.toList := by
      rw [← Array.length_toList]
      exact List.take_length
    rw [ef] at p3
    exact q Dl H2 (fresh_back e1 p1) (e1.trans p2) p3⟩
/-! ### is_name, is_literal and what the law says of them -/
def spIsName : Sp := fun vs H Q _ => ∃ z : Str, vs = [.str z] ∧ z.cps.size ≤ 1000 ∧ ∀ H', Evl.Ex H H' → Q (.bl (isName z)) H'
open Evl in
theorem ok_is_name (T : Txt P K mg) : FnOk P w K mg base CX0 1 T.f_is_name T.d_is_name ["text"] spIsName := by
  refine T.F_is_name.ok sc_is_name (fun vs H Q E h => ?_) (fun cdv A outer s H vs Q E hr h => ?_)
  · obtain ⟨z, rfl, _⟩ := h
    rfl
  · obtain ⟨z, rfl, hz, q⟩ := h
    have vz : ∀ (σ : L2.St) (H : Hp), σ[0]? = some (some (V.str z)) → Ev (tVar 0) σ H (.str z) := fun σ H e => ev_var e
    refine ⟨_, (pss_cons (ps_if (pt_not (pt_chain op_le op_le pe_int (pe_callB call_len_str (by rfl) T.n_len PySem.boot_len (pa_cons (pv 0) pa_nil)) (pe_glob (v := .int 8) rfl T.v_LONGEST_NAME ⟨_, rfl⟩))) (pss_one (ps_ret pe_bl)) pss_nil)
      (pss_one (ps_ret (pe_and (pe_cmpR op_in_sign (pe_item_str (pv 0) pe_int (fun _ _ => rfl)) (pe_glob (v := .str "abcdefghijklmnopqrstuvwxyz") rfl T.v_LETTERS ⟨_, rfl⟩) (by rfl)) (pe_one (pe_callB (cr_all rfl) (by rfl) T.n_all (by decide +kernel) (pa_cons (pe_lc (own := [("sign", 1)]) (g := gName 1) (by rfl) sc_is_name.nd (pi_str (pv 0)) (blkOk_by (own := [("sign", 1)]) (N := N_is_name) (sc := defScope s_is_name) (by decide +kernel)) (fun _ _ _ _ _ => pg_name (i := 1) sc_is_name.nd rfl (Or.inl rfl)) (fun _ _ _ _ _ => pts_nil) (fun _ _ _ _ _ => (pe_cmpR op_in_sign (pv 1) (pe_glob (v := .str "abcdefghijklmnopqrstuvwxyz0123456789") rfl T.v_LETTERS_AND_DIGITS ⟨_, rfl⟩) (by rfl)))) pa_nil))))))), ?_⟩
    have l : z.cps.toList.length = z.cps.size := Array.length_toList
    refine q_when (et_not (et_test (ev_chain (a := decide (1 ≤ z.cps.size)) (b := decide (z.cps.size ≤ 8)) ev_c (ev_lenS (vz _ _ rfl) (by omega)) (fun H1 _ Q q => ⟨1, _, rfl, rfl, ?_⟩) (fun _ => ev_c) (fun _ H1 _ Q q => ⟨_, 8, rfl, rfl, ?_⟩)))) (fun hb H1 e1 => ?_) (fun hb H1 e1 => ?_)
    · have e : decide ((1 : Int) ≤ (z.cps.size : Int)) = decide (1 ≤ z.cps.size) := decide_eq_decide.mpr (by omega)
      show Q (.bl (decide ((1 : Int) ≤ (z.cps.size : Int)))) H1
      rw [e]
      exact q H1 (Ex.refl H1)
    · have e : decide ((z.cps.size : Int) ≤ 8) = decide (z.cps.size ≤ 8) := decide_eq_decide.mpr (by omega)
      show Q (.bl (decide ((z.cps.size : Int) ≤ 8))) H1
      rw [e]
      exact q H1 (Ex.refl H1)
    · refine s_ret (v := .bl (isName z)) (ev_is ev_c ?_) (fun H2 e2 => q H2 (e1.trans e2))
      have hb2 : (decide (1 ≤ z.cps.size) && decide (z.cps.size ≤ 8)) = false := by
        rw [Bool.not_eq_true'] at hb
        exact hb
      unfold isName nameL
      rw [← Bool.and_assoc, l, hb2]
      rfl
    · have hb2 : (decide (1 ≤ z.cps.size) && decide (z.cps.size ≤ 8)) = true := by
        rw [Bool.not_eq_false'] at hb
        exact hb
      rw [Bool.and_eq_true] at hb2
      have h1 : 1 ≤ z.cps.size := of_decide_eq_true hb2.1
      obtain ⟨c, r, hc⟩ : ∃ c r, z.cps.toList = c :: r := by
        cases e : z.cps.toList with
        | nil => rw [e] at l; simp at l; omega
        | cons c r => exact ⟨c, r, rfl⟩
      have c0 : z.cps[0]? = some c := by
        rw [← Array.getElem?_toList, hc]
        rfl
      refine s_ret (v := .bl (isName z)) (ev_is (ev_andV (a := ltr c) (b := z.cps.toList.all lod) (ev_op (ev_op (vz _ _ rfl) ev_c (rv_itemS (i := 0) c0 (by omega))) ev_c rv_inS) (fun _ => ev_is (ev_all (bs := z.cps.toList.map lod) ?_) ?_)) ?_) (fun H2 e2 => q H2 (e1.trans e2))
      · rw [List.map_map]
        exact el_lcS (f := fun c => V.bl (lod c)) (vz _ _ rfl) (by omega) (fun _ => rfl) (fun c H2 e2 hm => ev_op (ev_var rfl) ev_c rv_inS)
      · rw [List.all_map]
        rfl
      · unfold isName nameL
        rw [l, hb2.1, hb2.2, hc]
        rfl
/-! ### literals -/
open Evl in
theorem rv_rp {H : Hp} {te : TE} {σ : L2.St} {z : Str} (h : Ev te σ H (.str z)) (hz : z.cps.size ≤ 1000) : Ev (tBM K "str" (fun x xs H Q => ∃ a b, x = .str a ∧ xs = [.str b] ∧ a.length ≤ sizeLine ∧ Q (.str (Txt.removeprefix a b)) H) te (tCons (tC (.str "-")) tNil)) σ H (.str (bare z)) := fun H1 e Q q =>
  h H1 e _ fun H2 e2 => ⟨rfl, z, "-", rfl, rfl, sz_of (by show z.cps.size ≤ _; omega), by rw [bare_rp]; exact q H2 e2⟩
def spIsLit : Sp := fun vs H Q _ => ∃ z : Str, vs = [.str z] ∧ z.cps.size ≤ 1000 ∧ ∀ H', Evl.Ex H H' → Q (.bl (isLit z)) H'
open Evl in
theorem ok_is_literal (T : Txt P K mg) : FnOk P w K mg base CX0 2 T.f_is_literal T.d_is_literal ["text"] spIsLit := by
  refine T.F_is_literal.ok sc_is_literal (fun vs H Q E h => ?_) (fun cdv A outer s H vs Q E hr h => ?_)
  · obtain ⟨z, rfl, _⟩ := h
    rfl
  · obtain ⟨z, rfl, hz, q⟩ := h
    refine ⟨_, (pss_one (ps_ret (pe_call (ok_is_name T) (hr.mono (by decide)) rfl T.g_is_name T.F_is_name.kp T.b_is_name .nil pass0 (pa_cons (pe_bm PySem.F.plainAttrs_str PySem.F.slot_str_removeprefix PySem.F.type_str_removeprefix mt_removeprefix (pv 0) (pa_cons pe_str pa_nil)) pa_nil)))), ?_⟩
    refine s_ret (ev_call (z := .bl (isLit z)) (ea_cons (rv_rp (ev_var rfl) hz) ea_nil) (fun H1 e1 Q' q' E' => ⟨bare z, rfl, Nat.le_trans (bare_len z) hz, fun H2 e2 => q' H2 e2⟩)) (fun H1 e1 => q H1 e1)
theorem flip_dash {z : Str} (h : dash z = true) : flip z = bare z := if_pos h
theorem flip_no {z : Str} (h : dash z = false) : flip z = "-" ++ z := by
  unfold flip
  rw [h, if_neg Bool.false_ne_true]
/-- a def that takes a literal: g of it, or BadLiteral with the text -/
def spLit (C : Addr) (g : Str → V) : Sp := fun vs H Q E => ∃ z : Str, vs = [.str z] ∧ z.cps.size ≤ 260 ∧ (∀ c ∈ z.cps.toList, c < 128) ∧ (isLit z = true → ∀ H', Evl.Ex H H' → Q (g z) H') ∧
  (isLit z = false → ∀ H' d, Evl.Ex H H' → H' d = some (.xd [("text", .str z)]) → E (.ref C) (some d) H')
theorem repr_le {z : Str} (hz : z.cps.size ≤ 260) (hc : ∀ c ∈ z.cps.toList, c < 128) : (reprText z).length ≤ 5000 := by
  have h := PySem.StrLaws.reprText_len z fun c h => Nat.lt_trans (hc c h) (by decide)
  have h2 : z.length ≤ 260 := hz
  omega
theorem ok_check_literal (T : Txt P K mg) : FnOk P w K mg base (L2N.CX P w) 3 T.f_check_literal T.d_check_literal ["text"] (spLit T.C_BadLiteral fun _ => .non) := by
  refine T.F_check_literal.okN sc_check_literal (fun vs H Q E h => ?_) (fun cdv A outer s H vs Q E hr h => ?_)
  · obtain ⟨z, rfl, _⟩ := h
    rfl
  · obtain ⟨z, rfl, hz, hc, q1, q2⟩ := h
    refine ⟨_, (pss_one (ps_if (pt_not (pt_val (pe_call (ok_is_literal T) (hr.mono (by decide)) rfl T.g_is_literal T.F_is_literal.kp T.b_is_literal .nil pass0 (pa_cons (pv 0) pa_nil)))) (pss_one (L2N.ps_raise rfl (L2N.takes_of rfl rfl rfl rfl) (pmk1 T.E_BadLiteral rfl fld_text T.o_BadLiteral hr (pa_cons (pv 0) pa_nil) rfl (by decide)))) pss_nil)), ?_⟩
    refine ⟨_, rfl, z, rfl, by omega, fun H1 e1 => ⟨_, rfl, ?_⟩⟩
    cases hl : isLit z with
    | true =>
      refine iteF ?_
      exact q1 hl H1 e1
    | false =>
      refine iteT ?_
      refine ⟨_, rfl, _, rfl, fun u hu => ?_, fun d hd => q2 hl _ d (e1.trans (Evl.Ex.new hd)) upd_same⟩
      obtain ⟨t, rfl⟩ := hu
      exact msg_crL fld_text (by decide) (repr_le hz hc)
theorem ok_name_of (T : Txt P K mg) : FnOk P w K mg base (L2N.CX P w) 4 T.f_name_of T.d_name_of ["literal"] (spLit T.C_BadLiteral fun z => .str (bare z)) := by
  refine T.F_name_of.okN sc_name_of (fun vs H Q E h => ?_) (fun cdv A outer s H vs Q E hr h => ?_)
  · obtain ⟨z, rfl, _⟩ := h
    rfl
  · obtain ⟨z, rfl, hz, hc, q1, q2⟩ := h
    refine ⟨_, (pss_cons (ps_expr (pe_call (ok_check_literal T) (hr.mono (by decide)) rfl T.g_check_literal T.F_check_literal.kp T.b_check_literal .nil (L2N.passes_call (L2N.takes_of rfl rfl rfl rfl) (fun _ _ _ _ h => h)) (pa_cons (pv 0) pa_nil)))
      (pss_one (ps_ret (pe_bm PySem.F.plainAttrs_str PySem.F.slot_str_removeprefix PySem.F.type_str_removeprefix mt_removeprefix (pv 0) (pa_cons pe_str pa_nil))))), ?_⟩
    refine ⟨_, rfl, z, rfl, hz, hc, fun hl H1 e1 => ?_, q2⟩
    exact Evl.s_ret (rv_rp (Evl.ev_var rfl) (by omega)) fun H2 e2 => q1 hl H2 (e1.trans e2)
theorem ok_is_positive (T : Txt P K mg) : FnOk P w K mg base (L2N.CX P w) 5 T.f_is_positive T.d_is_positive ["literal"] (spLit T.C_BadLiteral fun z => .bl (!dash z)) := by
  refine T.F_is_positive.okN sc_is_positive (fun vs H Q E h => ?_) (fun cdv A outer s H vs Q E hr h => ?_)
  · obtain ⟨z, rfl, _⟩ := h
    rfl
  · obtain ⟨z, rfl, hz, hc, q1, q2⟩ := h
    refine ⟨_, (pss_one (ps_ret (pe_cmpR op_eq (pe_call (ok_name_of T) (hr.mono (by decide)) rfl T.g_name_of T.F_name_of.kp T.b_name_of .nil (L2N.passes_call (L2N.takes_of rfl rfl rfl rfl) (fun _ _ _ _ h => h)) (pa_cons (pv 0) pa_nil)) (pv 0) (nomark _)))), ?_⟩
    refine ⟨_, rfl, z, rfl, hz, hc, fun hl H1 e1 => ⟨_, rfl, rfl, ?_⟩, q2⟩
    have e : decide (V.str (bare z) = V.str z) = !dash z := by
      rw [← bare_same z]
      exact decide_eq_decide.mpr ⟨fun x => V.str.inj x, fun x => congrArg V.str x⟩
    rw [e]
    exact q1 hl H1 e1
theorem ok_negated (T : Txt P K mg) : FnOk P w K mg base (L2N.CX P w) 6 T.f_negated T.d_negated ["literal"] (spLit T.C_BadLiteral fun z => .str (flip z)) := by
  refine T.F_negated.okN sc_negated (fun vs H Q E h => ?_) (fun cdv A outer s H vs Q E hr h => ?_)
  · obtain ⟨z, rfl, _⟩ := h
    rfl
  · obtain ⟨z, rfl, hz, hc, q1, q2⟩ := h
    refine ⟨_, (pss_cons (ps_if (pt_val (pe_call (ok_is_positive T) (hr.mono (by decide)) rfl T.g_is_positive T.F_is_positive.kp T.b_is_positive .nil (L2N.passes_call (L2N.takes_of rfl rfl rfl rfl) (fun _ _ _ _ h => h)) (pa_cons (pv 0) pa_nil))) (pss_one (ps_ret (pe_joined (.cons pe_str (.cons (pe_fmt (pv 0)) .nil))))) pss_nil)
      (pss_one (ps_ret (pe_call (ok_name_of T) (hr.mono (by decide)) rfl T.g_name_of T.F_name_of.kp T.b_name_of .nil (L2N.passes_call (L2N.takes_of rfl rfl rfl rfl) (fun _ _ _ _ h => h)) (pa_cons (pv 0) pa_nil))))), ?_⟩
    refine ⟨_, rfl, z, rfl, hz, hc, fun hl H1 e1 => ⟨_, rfl, ?_⟩, q2⟩
    cases hd : dash z with
    | true =>
      refine iteF ?_
      refine ⟨_, rfl, z, rfl, hz, hc, fun hl2 H2 e2 => ?_, fun hl2 => by rw [hl] at hl2; cases hl2⟩
      have z3 : Q (.str (flip z)) H2 := q1 hl H2 (e1.trans e2)
      rw [flip_dash hd] at z3
      exact z3
    | false =>
      refine iteT ?_
      have zl : z.length ≤ 260 := hz
      have l1 : (Str.empty ++ ("-" : Str)).length ≤ sizeLine := line_of (by decide)
      have l2 : (Str.empty ++ ("-" : Str) ++ z).length ≤ sizeLine := line_of (Nat.le_trans (app_le (n := 1) (m := 260) (by decide) hz) (by decide))
      refine ⟨"-", rfl, l1, _, rfl, .inl ⟨z, rfl, line_of (by omega), z, rfl, l2, ?_⟩⟩
      have z2 : Q (.str (flip z)) H1 := q1 hl H1 e1
      rw [flip_no hd] at z2
      exact z2
/-! ### the law's own -/
def spPure (g : Str → V) : Sp := fun vs H Q _ => ∃ z : Str, vs = [.str z] ∧ z.cps.size ≤ 260 ∧ ∀ H', Evl.Ex H H' → Q (g z) H'
open Evl in
theorem ev_sl1 {H : Hp} {te : TE} {σ : L2.St} {z : Str} (h : Ev te σ H (.str z)) (hz : z.cps.size ≤ 1000) : Ev (tSl rSlS te tNoPart (tPart (tC (.int 1)))) σ H (.str (cutS z none (some 1))) := fun H1 e Q q =>
  h H1 e _ fun H2 e2 => ⟨1, rfl, z, rfl, sz_of (by show z.cps.size ≤ _; omega), q H2 e2⟩
open Evl in
theorem ev_sl1n {H : Hp} {te : TE} {σ : L2.St} {z : Str} (h : Ev te σ H (.str z)) (hz : z.cps.size ≤ 1000) : Ev (tSl rSlS te (tPart (tC (.int 1))) tNoPart) σ H (.str (cutS z (some 1) none)) := fun H1 e Q q =>
  h H1 e _ fun H2 e2 => ⟨1, rfl, z, rfl, sz_of (by show z.cps.size ≤ _; omega), q H2 e2⟩
open Evl in
theorem ok__law_name (T : Txt P K mg) : FnOk P w K mg base CX0 1 T.f__law_name T.d__law_name ["_law_literal"] (spPure fun z => .str (bare z)) := by
  refine T.F__law_name.ok sc__law_name (fun vs H Q E h => ?_) (fun cdv A outer s H vs Q E hr h => ?_)
  · obtain ⟨z, rfl, _⟩ := h
    rfl
  · obtain ⟨z, rfl, hz, q⟩ := h
    refine ⟨_, (pss_cons (ps_if (pt_cmpR op_eq (pe_slice sl_str (pv 0) po_none (po_some pe_int)) pe_str (nomark _)) (pss_one (ps_ret (pe_slice sl_str (pv 0) (po_some pe_int) po_none))) pss_nil)
      (pss_one (ps_ret (pv 0)))), ?_⟩
    refine q_when (b := dash z) (et_test (ev_is (ev_op (ev_sl1 (ev_var rfl) (by omega)) ev_c (rv_eq rfl)) (by rw [dash_cut]))) (fun hd H1 e1 => ?_) (fun hd H1 e1 => ?_)
    · refine s_ret (ev_is (w := .str (bare z)) (ev_sl1n (ev_var rfl) (by omega)) (by rw [bare_cut hd])) fun H2 e2 => q H2 (e1.trans e2)
    · refine s_ret (ev_is (v := .str z) (w := .str (bare z)) (ev_var rfl) (by rw [bare_no hd])) fun H2 e2 => q H2 (e1.trans e2)
open Evl in
theorem ok__law_flip (T : Txt P K mg) : FnOk P w K mg base CX0 1 T.f__law_flip T.d__law_flip ["_law_literal"] (spPure fun z => .str (flip z)) := by
  refine T.F__law_flip.ok sc__law_flip (fun vs H Q E h => ?_) (fun cdv A outer s H vs Q E hr h => ?_)
  · obtain ⟨z, rfl, _⟩ := h
    rfl
  · obtain ⟨z, rfl, hz, q⟩ := h
    refine ⟨_, (pss_cons (ps_if (pt_cmpR op_eq (pe_slice sl_str (pv 0) po_none (po_some pe_int)) pe_str (nomark _)) (pss_one (ps_ret (pe_slice sl_str (pv 0) (po_some pe_int) po_none))) pss_nil)
      (pss_one (ps_ret (pe_op op_add_str pe_str (pv 0))))), ?_⟩
    refine q_when (b := dash z) (et_test (ev_is (ev_op (ev_sl1 (ev_var rfl) (by omega)) ev_c (rv_eq rfl)) (by rw [dash_cut]))) (fun hd H1 e1 => ?_) (fun hd H1 e1 => ?_)
    · refine s_ret (ev_is (w := .str (flip z)) (ev_sl1n (ev_var rfl) (by omega)) ?_) fun H2 e2 => q H2 (e1.trans e2)
      rw [bare_cut hd, flip_dash hd]
    · refine s_ret (ev_is (v := .str ("-" ++ z)) (w := .str (flip z)) (ev_op (y := .str z) ev_c (ev_var rfl) (fun H2 _ Q q => ⟨"-", z, rfl, rfl, ?_, q H2 (Ex.refl H2)⟩)) ?_) fun H2 e2 => q H2 (e1.trans e2)
      · have h1 : ("-" : Str).length = 1 := by decide
        have h2 : z.length = z.cps.size := rfl
        exact line_of (by omega)
      · rw [flip_no hd]
/-! ### texts in order -/
def leS (a b : Str) : Prop := a.cps.toList ≤ b.cps.toList
theorem leS_of {a b : Str} (h : ltCps b.cps.toList a.cps.toList = false) : leS a b := by
  rw [ltCps_eq] at h
  exact of_decide_eq_false h
theorem leS_trans {a b c : Str} (x : leS a b) (y : leS b c) : leS a c := List.le_trans x y
theorem leS_anti {a b : Str} (x : leS a b) (y : leS b a) : a = b := str_eq (List.le_antisymm x y)
theorem pw_rising : ∀ (p : Str) (l : List Str), risingS p l = true → (p :: l).Pairwise leS
  | p, [], _ => List.pairwise_singleton _ _
  | p, x :: r, h => by
    have h2 : (!ltCps x.cps.toList p.cps.toList && risingS x r) = true := h
    rw [Bool.and_eq_true, Bool.not_eq_true'] at h2
    have t := pw_rising x r h2.2
    refine List.pairwise_cons.mpr ⟨fun y hy => ?_, t⟩
    have px := leS_of h2.1
    rcases List.mem_cons.mp hy with e | hy
    · rw [e]; exact px
    · exact leS_trans px ((List.pairwise_cons.mp t).1 y hy)
theorem pw_sorted : ∀ (l : List Str), sortedS l = true → l.Pairwise leS
  | [], _ => .nil
  | x :: r, h => pw_rising x r h
/-- in order, one way alone -/
theorem same_order : ∀ {l m : List Str}, l.Pairwise leS → m.Pairwise leS → l.Perm m → l = m
  | [], m, _, _, p => (List.Perm.eq_nil p.symm).symm
  | x :: l, [], _, _, p => absurd p.length_eq (by simp)
  | x :: l, y :: m, a, b, p => by
    obtain ⟨a1, a2⟩ := List.pairwise_cons.mp a
    obtain ⟨b1, b2⟩ := List.pairwise_cons.mp b
    have e : x = y := by
      rcases List.mem_cons.mp (p.mem_iff.mp List.mem_cons_self) with e | hx
      · exact e
      · rcases List.mem_cons.mp (p.mem_iff.mpr List.mem_cons_self) with e | hy
        · exact e.symm
        · exact leS_anti (a1 y hy) (b1 x hx)
    subst e
    rw [same_order a2 b2 ((List.perm_cons _).mp p)]
theorem perm_len_le : ∀ {l m : List Str}, l.Nodup → (∀ x ∈ l, x ∈ m) → l.length ≤ m.length
  | [], m, _, _ => Nat.zero_le _
  | x :: l, m, nd, sub => by
    obtain ⟨n1, n2⟩ := List.nodup_cons.mp nd
    have pe := List.perm_cons_erase (sub x List.mem_cons_self)
    have z := perm_len_le (m := m.erase x) n2 fun y hy => (List.mem_erase_of_ne (fun (e : y = x) => n1 (by rw [← e]; exact hy))).mpr (sub y (List.mem_cons_of_mem _ hy))
    have q := pe.length_eq
    simp only [List.length_cons] at q ⊢
    omega
/-- the names of the texts L, each once, in order -/
structure Ord (L N : List Str) : Prop where
  pw : N.Pairwise leS
  nd : N.Nodup
  mem : ∀ x, x ∈ N ↔ x ∈ L
theorem Ord.uniq {L L' N N' : List Str} (a : Ord L N) (b : Ord L' N') (h : ∀ x, x ∈ L ↔ x ∈ L') : N = N' := by
  have sub : ∀ x, x ∈ N ↔ x ∈ N' := fun x => by rw [a.mem, b.mem, h]
  exact same_order a.pw b.pw (perm_of_sub a.nd (fun x hx => (sub x).mp hx) (perm_len_le b.nd fun x hx => (sub x).mpr hx))
/-- a sorted list's texts, each once -/
def dd : List Str → List Str → List Str
  | acc, [] => acc
  | acc, x :: r => if x ∈ acc then dd acc r else dd (acc ++ [x]) r
theorem dd_spec : ∀ (l acc : List Str), acc.Nodup → (acc ++ l).Pairwise leS → (dd acc l).Pairwise leS ∧ (dd acc l).Nodup ∧ ∀ x, x ∈ dd acc l ↔ x ∈ acc ∨ x ∈ l
  | [], acc, nd, pw => ⟨by rw [List.append_nil] at pw; exact pw, nd, fun x => by simp [dd]⟩
  | y :: r, acc, nd, pw => by
    unfold dd
    by_cases h : y ∈ acc
    · rw [if_pos h]
      have pw2 : (acc ++ r).Pairwise leS := pw.sublist (List.Sublist.append (List.Sublist.refl _) (List.sublist_cons_self _ _))
      obtain ⟨a, b, c⟩ := dd_spec r acc nd pw2
      refine ⟨a, b, fun x => ?_⟩
      rw [c x, List.mem_cons]
      constructor
      · rintro (z | z)
        · exact .inl z
        · exact .inr (.inr z)
      · rintro (z | z | z)
        · exact .inl z
        · exact .inl (z ▸ h)
        · exact .inr z
    · rw [if_neg h]
      have pw2 : ((acc ++ [y]) ++ r).Pairwise leS := by rw [List.append_assoc]; exact pw
      have nd2 : (acc ++ [y]).Nodup := by
        rw [List.nodup_append]
        exact ⟨nd, by simp, fun a ha b hb e => h (by rw [List.mem_singleton] at hb; rw [← hb, ← e]; exact ha)⟩
      obtain ⟨a, b, c⟩ := dd_spec r (acc ++ [y]) nd2 pw2
      refine ⟨a, b, fun x => ?_⟩
      rw [c x, List.mem_append, List.mem_singleton, List.mem_cons, or_assoc]
theorem dd_step (acc : List Str) (l : List Str) (y : Str) : dd acc (l ++ [y]) = if y ∈ dd acc l then dd acc l else dd acc l ++ [y] := by
  induction l generalizing acc with
  | nil => by_cases h : y ∈ acc <;> simp [dd, h]
  | cons x r ih =>
    show dd acc (x :: (r ++ [y])) = _
    unfold dd
    split
    · exact ih acc
    · exact ih _
theorem dd_ord {L ys : List Str} (p : ys.Perm L) (h : sortedS ys = true) : Ord L (dd [] ys) := by
  obtain ⟨a, b, c⟩ := dd_spec ys [] .nil (pw_sorted ys h)
  exact ⟨a, b, fun x => by rw [c x, p.mem_iff]; simp⟩
theorem srt_ord {L ss : List Str} (p : ss.Perm (putL L)) (h : sortedS ss = true) : Ord L ss :=
  ⟨pw_sorted ss h, p.nodup_iff.mpr (putL_nd L), fun x => by rw [p.mem_iff, putL_mem]⟩
/-- both signs of a name, those that are in L -/
def pick (L : List Str) (n : Str) : List Str := [n, "-" ++ n].filter fun z => decide (z ∈ L)
def due (L N : List Str) : List Str := N.flatMap (pick L)
section
open Evl
/-- [e for y in a list for x in a tuple that y gives] -/
theorem el_lc2 {σ : L2.St} {H : Hp} {a : Addr} {ys : List V} {tl tu te : TE} {j j1 : Nat} {vs vs1 : List Nat} (f : V → List V) (h : Ev tl σ H (.ref a)) (hx : SqL K H a ys) (hz : (ys.flatMap f).length ≤ 40000) (hw : ∀ x, wipe ((wipe σ vs).set j (some x)) vs = wipe σ vs)
    (hw1 : ∀ y x, wipe ((wipe ((wipe σ vs).set j (some y)) vs1).set j1 (some x)) vs1 = wipe ((wipe σ vs).set j (some y)) vs1) (hi : ∀ y ∈ ys, ∀ H1, Ex H H1 → EvU tu ((wipe σ vs).set j (some y)) H1 (f y))
    (he : ∀ y ∈ ys, ∀ x ∈ f y, ∀ H1, Ex H H1 → Ev te ((wipe ((wipe σ vs).set j (some y)) vs1).set j1 (some x)) H1 x) : EvL (tLc2 (iList K tl) (gName j) tYes (iTup K tu) (gName j1) tYes te vs vs1) σ H (ys.flatMap f) := fun H0 e Q q => h H0 e _ fun H1 e1 => by
  have hx1 := ex_l (e.trans e1) hx
  refine ⟨a, rfl, ⟨ys, hx1⟩, fun D hD => ?_⟩
  have P : ∃ P : Nat → Hp → Prop, P = fun i H' => Ex H1 H' ∧ H' D = some (.lst ((ys.take i).flatMap f)) := ⟨_, rfl⟩
  obtain ⟨P, hP⟩ := P
  refine ⟨fun i m H' => m = ys.length - i ∧ i ≤ ys.length ∧ P i H', ⟨_, rfl, Nat.zero_le _, by rw [hP]; exact ⟨Ex.new hD, upd_same⟩⟩, ?_⟩
  rintro i m H2 ⟨rfl, hi', p⟩
  have pp := p
  rw [hP] at pp
  obtain ⟨p1, p2⟩ := pp
  by_cases lt : i < ys.length
  · refine .inr ⟨⟨ys, ys[i], ex_l p1 hx1, by simp [lt]⟩, P (i + 1), fun H' z => ⟨ys.length - (i + 1), by omega, rfl, lt, z⟩, fun y H3 z => ?_⟩
    obtain ⟨rfl, z⟩ := z
    have hy : ys[i]? = some y := z ys (ex_l p1 hx1)
    have my : y ∈ ys := List.mem_of_getElem? hy
    refine ⟨hw y, ?_⟩
    unfold tYes
    dsimp only
    rw [if_pos rfl]
    refine hi y my _ ((e.trans e1).trans p1) _ (Ex.refl _) _ fun t H4 nt e4 ht => ⟨t, rfl, ⟨f y, st_of ht⟩, ?_⟩
    have nD : t ≠ D := fun z => by rw [z, p2] at nt; cases nt
    refine ⟨fun k m H' => m = (f y).length - k ∧ k ≤ (f y).length ∧ Ex H1 H' ∧ H' t = some (.tup (f y)) ∧ H' D = some (.lst ((ys.take i).flatMap f ++ (f y).take k)), ⟨_, rfl, Nat.zero_le _, p1.trans e4, ht, by rw [List.take_zero, List.append_nil]; exact e4 _ _ p2⟩, ?_⟩
    rintro k m H5 ⟨rfl, hk, r1, r2, r3⟩
    have small : ((ys.take i).flatMap f).length + (f y).length ≤ 40000 := by
      have z1 : ys = ys.take i ++ y :: ys.drop (i + 1) := by
        have z2 : ys.drop i = y :: ys.drop (i + 1) := by
          rw [List.drop_eq_getElem_cons lt]
          have z3 := (List.getElem?_eq_some_iff.mp hy).2
          rw [z3]
        rw [← z2, List.take_append_drop]
      have z4 : ys.flatMap f = (ys.take i).flatMap f ++ (f y ++ (ys.drop (i + 1)).flatMap f) := by
        have z5 := congrArg (List.flatMap f) z1
        rw [List.flatMap_append, List.flatMap_cons] at z5
        exact z5
      rw [z4, List.length_append, List.length_append] at hz
      omega
    by_cases lk : k < (f y).length
    · refine .inr ⟨⟨f y, (f y)[k], st_of r2, by simp [lk]⟩, fun H' => k + 1 ≤ (f y).length ∧ Ex H1 H' ∧ H' t = some (.tup (f y)) ∧ H' D = some (.lst ((ys.take i).flatMap f ++ (f y).take (k + 1))), fun H' z => ⟨(f y).length - (k + 1), by omega, rfl, z⟩, fun x H6 z => ?_⟩
      obtain ⟨rfl, z⟩ := z
      have hxk : (f y)[k]? = some x := z (f y) (st_of r2)
      refine ⟨hw1 y x, ?_⟩
      dsimp only
      rw [if_pos rfl]
      refine he y my x (List.mem_of_getElem? hxk) _ ((e.trans e1).trans r1) _ (Ex.refl _) _ fun H7 e7 => ⟨_, e7 _ _ r3, ?_, lk, Ex.mut (r1.trans e7) hD, ?_, ?_⟩
      · rw [List.length_append]
        exact sz_lt (by have := List.length_take_le k (f y); omega)
      · rw [upd_ne nD]; exact e7 _ _ r2
      · rw [upd_same, List.take_add_one, hxk, List.append_assoc] <;> rfl
    · have ek : k = (f y).length := by omega
      refine .inl ⟨⟨f y, st_of r2, by omega⟩, ?_⟩
      rw [hP]
      refine ⟨r1, ?_⟩
      rw [r3, ek, List.take_length, List.take_add_one, hy, List.flatMap_append] <;> simp
  · have ei : i = ys.length := by omega
    refine .inl ⟨⟨ys, ex_l p1 hx1, by omega⟩, ?_⟩
    rw [ei, List.take_length] at p2
    exact q D H2 (fresh_back e1 hD) (e1.trans p1) p2
end
/-! ### both_signs, in_order -/
def twoOf (n : Str) : List Str := [n, "-" ++ n]
def twoV : V → List V
  | .str n => [.str n, .str ("-" ++ n)]
  | _ => []
theorem two_map : ∀ ns : List Str, (ns.map V.str).flatMap twoV = (ns.flatMap twoOf).map V.str
  | [] => rfl
  | n :: r => by
    rw [List.map_cons, List.flatMap_cons, List.flatMap_cons, List.map_append, two_map r]
    rfl
theorem two_len (ns : List Str) : (ns.flatMap twoOf).length = 2 * ns.length := by
  induction ns with
  | nil => rfl
  | cons n r ih => rw [List.flatMap_cons, List.length_append, ih, List.length_cons]; show 2 + 2 * r.length = _; omega
open Evl in
theorem ev_minus {σ : L2.St} {H : Hp} {j : Nat} {z : Str} (h : σ[j]? = some (some (.str z))) (hz : z.cps.size ≤ 260) : Ev (fun σ H Q => tJs [tC (.str "-"), tFmt (tVar j)] Str.empty σ H fun out H1 => Q (.str out) H1) σ H (.str ("-" ++ z)) := fun H1 e Q q => by
  have zl : z.length ≤ 260 := hz
  have l1 : (Str.empty ++ ("-" : Str)).length ≤ sizeLine := line_of (by decide)
  have l2 : (Str.empty ++ ("-" : Str) ++ z).length ≤ sizeLine := line_of (Nat.le_trans (app_le (n := 1) (m := 260) (by decide) hz) (by decide))
  exact ⟨"-", rfl, l1, _, h, .inl ⟨z, rfl, line_of (by omega), z, rfl, l2, q H1 (Ex.refl H1)⟩⟩
def spBoth : Sp := fun vs H Q _ => ∃ (a : Addr) (ns : List Str), vs = [.ref a] ∧ H a = some (.lst (ns.map V.str)) ∧ ns.length ≤ 200 ∧ (∀ z ∈ ns, z.cps.size ≤ 260) ∧ Evl.RetL ((ns.flatMap twoOf).map V.str) H Q
open Evl in
theorem ok_both_signs (T : Txt P K mg) : FnOk P w K mg base CX0 1 T.f_both_signs T.d_both_signs ["names"] spBoth := by
  refine T.F_both_signs.ok sc_both_signs (fun vs H Q E h => ?_) (fun cdv A outer s H vs Q E hr h => ?_)
  · obtain ⟨a, ns, rfl, _⟩ := h
    rfl
  · obtain ⟨a, ns, rfl, ha, few, short, q⟩ := h
    refine ⟨_, (pss_one (ps_ret (pe_lc2 (own := [("name", 1), ("literal", 2)]) (vs1 := [2]) (wi1 := iTup K (tTup (tCons (tVar 1) (tCons (fun σ H Q => tJs [tC (.str "-"), tFmt (tVar 1)] Str.empty σ H fun out H1 => Q (.str out) H1) tNil)))) (g := gName 1) (g1 := gName 2) (by rfl) sc_both_signs.nd (pi_list (pv 0)) (blkOk_by (own := [("name", 1), ("literal", 2)]) (N := N_both_signs) (sc := defScope s_both_signs) (by decide +kernel)) (by decide)
      (fun _ _ _ _ _ => pg_name (i := 1) sc_both_signs.nd rfl (Or.inl rfl)) (fun _ _ _ _ _ => pts_nil) (fun _ _ _ _ _ => pi_tup (pe_tup (pa_cons (pv 1) (pa_cons (pe_joined (.cons pe_str (.cons (pe_fmt (pv 1)) .nil))) pa_nil))))
      (fun _ _ _ _ _ => pg_name (i := 2) sc_both_signs.nd rfl (Or.inl rfl)) (fun _ _ _ _ _ => pts_nil) (fun _ _ _ _ _ => (pv 2))))), ?_⟩
    refine s_retL (xs := (ns.map V.str).flatMap twoV) (el_lc2 (K := K) (ys := ns.map V.str) twoV (ev_var rfl) (sq_of ha) ?_ (fun _ => rfl) (fun _ _ => rfl) (fun y hy H1 e1 => ?_) (fun y hy x hx H1 e1 => ev_var rfl)) (fun p H1 np e1 hp => q p H1 np e1 (by rw [hp, two_map]))
    · rw [two_map, List.length_map, two_len]; omega
    · obtain ⟨n, hn, rfl⟩ := List.mem_map.mp hy
      exact eu_tup (ea_cons (ev_var rfl) (ea_cons (ev_minus rfl (short n hn)) ea_nil)) (show 2 ≤ 100000 by decide)
theorem in_map {z : Str} {L : List Str} : inV (.str z) (L.map V.str) = decide (z ∈ L) := by
  unfold inV
  rw [List.any_map]
  induction L with
  | nil => rfl
  | cons y r ih =>
    rw [List.any_cons, ih]
    have e : (eqV (V.str y) (V.str z)) = decide (z = y) := by
      by_cases h : z = y
      · subst h; simp [eqV]
      · simp [eqV, h, Ne.symm h]
    show (eqV (V.str y) (V.str z) || decide (z ∈ r)) = _
    rw [e]
    by_cases h1 : z = y <;> by_cases h2 : z ∈ r <;> simp [h1, h2]
theorem flat_str (L : List Str) : (L.map V.str).all flatV = true := flat_strs L
open Evl in
/-- z in a list of texts -/
theorem ev_inStr {σ : L2.St} {H : Hp} {ta tb : TE} {z : Str} {p : Addr} {L : List Str} (ha : Ev ta σ H (.str z)) (hb : Ev tb σ H (.ref p)) (hp : H p = some (.lst (L.map V.str))) : Ev (tOp (rIn K false) ta tb) σ H (.bl (decide (z ∈ L))) :=
  ev_is (ev_op ha hb (rv_isL (sq_of hp) rfl (flat_str L))) (by rw [in_map])
open Evl in
theorem ev_niStr {σ : L2.St} {H : Hp} {ta tb : TE} {z : Str} {p : Addr} {L : List Str} (ha : Ev ta σ H (.str z)) (hb : Ev tb σ H (.ref p)) (hp : H p = some (.lst (L.map V.str))) : Ev (tOp (rIn K true) ta tb) σ H (.bl (!decide (z ∈ L))) :=
  ev_is (ev_op ha hb (rv_niL (sq_of hp) rfl (flat_str L))) (by rw [in_map])
theorem pick_all (L N : List Str) : (N.flatMap twoOf).filter (fun z => decide (z ∈ L)) = due L N := by
  unfold due
  induction N with
  | nil => rfl
  | cons n r ih =>
    rw [List.flatMap_cons, List.flatMap_cons, List.filter_append, ih]
    rfl
open Evl in
theorem ev_inStrT {σ : L2.St} {H : Hp} {ta tb : TE} {z : Str} {p : Addr} {L : List Str} (ha : Ev ta σ H (.str z)) (hb : Ev tb σ H (.ref p)) (hp : H p = some (.tup (L.map V.str))) : Ev (tOp (rIn K false) ta tb) σ H (.bl (decide (z ∈ L))) :=
  ev_is (ev_op ha hb (rv_isT (st_of hp) rfl (flat_str L))) (by rw [in_map])
/-- in_order(literals), literals a tuple -/
def spOrderT (C : Addr) : Sp := fun vs H Q E => ∃ (a : Addr) (L : List Str), vs = [.ref a] ∧ H a = some (.tup (L.map V.str)) ∧ L.length ≤ 100 ∧ (∀ z ∈ L, z.cps.size ≤ 260 ∧ ∀ c ∈ z.cps.toList, c < 128) ∧
  ((∀ z ∈ L, isLit z = true) → ∀ N, Ord (L.map bare) N → Evl.RetL ((due L N).map V.str) H Q) ∧
  (∀ pre z post, L = pre ++ z :: post → (∀ y ∈ pre, isLit y = true) → isLit z = false → ∀ H' d, Evl.Ex H H' → H' d = some (.xd [("text", .str z)]) → E (.ref C) (some d) H')
open Evl in
theorem okT_in_order (T : Txt P K mg) : FnOk P w K mg base (L2N.CX P w) 5 T.f_in_order T.d_in_order ["literals"] (spOrderT T.C_BadLiteral) := by
  refine T.F_in_order.okN sc_in_order (fun vs H Q E h => ?_) (fun cdv A outer s H vs Q E hr h => ?_)
  · obtain ⟨a, L, rfl, _⟩ := h
    rfl
  · obtain ⟨a, L, rfl, ha, few, short, good, bad⟩ := h
    refine ⟨_, (pss_cons (ps_setLcE (i := 1) (own := [("literal", 2)]) (g := gName 2) rfl rfl (L2N.takes_of rfl rfl rfl rfl) (by rfl) sc_in_order.nd rfl rfl (sw_true rfl rfl rfl (by decide +kernel)) (pi_tup (pv 0)) (blkOk_by (own := [("literal", 2)]) (N := N_in_order) (sc := defScope s_in_order) (by decide +kernel))
      (fun _ _ _ _ _ _ _ => pg_name (i := 2) sc_in_order.nd rfl (Or.inl rfl)) (fun _ _ _ _ _ _ _ => pts_nil) (fun _ _ _ _ _ _ pass => (pe_call (ok_name_of T) (hr.mono (by decide)) rfl T.g_name_of T.F_name_of.kp T.b_name_of .nil pass (pa_cons (pv 2) pa_nil))))
      (pss_one (ps_ret (pe_lc (own := [("literal", 2)]) (g := gName 2) (tt := tTest (tOp (rIn K false) (tVar 2) (tVar 0))) (by rfl) sc_in_order.nd (pi_list (pe_call (ok_both_signs T) (hr.mono (by decide)) rfl T.g_both_signs T.F_both_signs.kp T.b_both_signs .nil pass0 (pa_cons (pe_callB (cr_srtS rfl) (by rfl) T.n_sorted (by decide +kernel) (pa_cons (pe_callTy (cr_setS rfl) (by rfl) T.n_set (by decide +kernel) (pa_cons (pv 1) pa_nil)) pa_nil)) pa_nil))) (blkOk_by (own := [("literal", 2)]) (N := N_in_order) (sc := defScope s_in_order) (by decide +kernel)) (fun _ _ _ _ _ => pg_name (i := 2) sc_in_order.nd rfl (Or.inl rfl)) (fun _ _ _ _ _ => (pts_one (pt_cmpR op_in_seq (pv 2) (pv 0) (by rfl)))) (fun _ _ _ _ _ => (pv 2)))))), ?_⟩
    have len8 : ∀ z ∈ L, (bare z).cps.size ≤ 260 := fun z hz => Nat.le_trans (bare_len z) (short z hz).1
    refine ⟨_, rfl, a, rfl, ⟨_, st_of ha⟩, fun D nD => lc_tup (K := K) (xs := L.map V.str) (fun i H' => Ex (upd H D (.lst [])) (upd H' D (.lst [])) ∧ H' D = some (.lst (((L.take i).map bare).map V.str)) ∧ ∀ z ∈ L.take i, isLit z = true) ⟨by rw [upd_upd]; exact Ex.refl _, upd_same, fun z hz => by simp at hz⟩ ?keep ?step ?done⟩
    case keep =>
      rintro i H1 hi ⟨e1, _, _⟩
      refine st_of ?_
      have z := e1 a _ (by rw [upd_ne (ne_of_none ha nD)]; exact ha)
      rw [upd_ne (ne_of_none ha nD)] at z
      exact z
    case step =>
      rintro i x H1 hx ⟨e1, h1, yes⟩
      obtain ⟨z, hz, rfl⟩ : ∃ z, L[i]? = some z ∧ V.str z = x := by
        rw [List.getElem?_map] at hx
        cases e : L[i]? with
        | none => rw [e] at hx; cases hx
        | some z => rw [e] at hx; exact ⟨z, rfl, Option.some.inj hx⟩
      have mz : z ∈ L := List.mem_of_getElem? hz
      refine ⟨rfl, ?_⟩
      unfold tYes
      dsimp only
      rw [if_pos rfl]
      refine ⟨_, rfl, z, rfl, (short z mz).1, (short z mz).2, fun hl H2 e2 => ⟨_, e2 _ _ h1, ?_, ?_, ?_, ?_⟩, fun hl H2 d e2 hd => ?_⟩
      · rw [List.length_map, List.length_map]
        exact sz_lt (by have := List.length_take_le' i L; omega)
      · rw [upd_upd]
        intro b o hb
        by_cases hbD : b = D
        · rw [hbD, upd_same] at hb
          rw [hbD, upd_same]; exact hb
        · have z1 := e1 b o hb
          rw [upd_ne hbD] at z1 ⊢
          exact e2 b o z1
      · rw [upd_same, List.take_add_one, hz, List.map_append, List.map_append]
        rfl
      · intro y hy
        rw [List.take_add_one, hz] at hy
        rcases List.mem_append.mp hy with h | h
        · exact yes y h
        · have e : y = z := by simpa using h
          rw [e]; exact hl
      · refine bad (L.take i) z (L.drop (i + 1)) ?_ yes hl H2 d (fun b o hb => ?_) hd
        · have lt := (List.getElem?_eq_some_iff.mp hz).1
          have q := (List.getElem?_eq_some_iff.mp hz).2
          have z2 : L.drop i = z :: L.drop (i + 1) := by rw [List.drop_eq_getElem_cons lt, q]
          rw [← z2, List.take_append_drop]
        · have nb : b ≠ D := ne_of_none hb nD
          have z1 := e1 b o (by rw [upd_ne nb]; exact hb)
          rw [upd_ne nb] at z1
          exact e2 b o z1
    case done =>
      rintro H1 ⟨e1, h1, yes⟩
      rw [List.length_map, List.take_length] at h1 yes
      have eH : Ex H H1 := fun b o hb => by
        have nb : b ≠ D := ne_of_none hb nD
        have z1 := e1 b o (by rw [upd_ne nb]; exact hb)
        rw [upd_ne nb] at z1
        exact z1
      have cnt : (L.map bare).length ≤ 100 := by rw [List.length_map]; exact few
      refine ⟨_, rfl, D, L.map bare, rfl, sq_of h1, by omega, fun p np => ⟨p, putL (L.map bare), rfl, upd_same, putL_nd _, by have := putL_len (L.map bare); omega, fun ss r pm so nr => ?_⟩⟩
      have od := srt_ord pm so
      have snum : ss.length ≤ 100 := by rw [pm.length_eq]; have := putL_len (L.map bare); omega
      have shorts : ∀ z ∈ ss, z.cps.size ≤ 260 := fun z hz => by
        obtain ⟨y, hy, rfl⟩ := List.mem_map.mp ((od.mem z).mp hz)
        exact len8 y hy
      refine ⟨r, ss, rfl, upd_same, by omega, shorts, fun b H2 nb e2 hb => ?_⟩
      have e3 : Ex H1 H2 := (Ex.new np).trans ((Ex.new nr).trans e2)
      refine ⟨b, rfl, ⟨_, sq_of hb⟩, fun D2 nD2 => lc_list (K := K) (xs := (ss.flatMap twoOf).map V.str) (fun i H' => Ex H2 H' ∧ H' D2 = some (.lst ((((ss.flatMap twoOf).take i).filter fun z => decide (z ∈ L)).map V.str))) ⟨Ex.new nD2, upd_same⟩ (fun i H' _ p => ex_l p.1 (sq_of hb)) ?_ ?_⟩
      · rintro i x H3 hx ⟨q1, q2⟩
        obtain ⟨z, hz, rfl⟩ : ∃ z, (ss.flatMap twoOf)[i]? = some z ∧ V.str z = x := by
          rw [List.getElem?_map] at hx
          cases e : (ss.flatMap twoOf)[i]? with
          | none => rw [e] at hx; cases hx
          | some z => rw [e] at hx; exact ⟨z, rfl, Option.some.inj hx⟩
        refine ⟨rfl, ?_⟩
        have ha3 : H3 a = some (.tup (L.map V.str)) := q1 _ _ (e3 _ _ (eH _ _ ha))
        refine et_test (ev_inStrT (ev_var rfl) (ev_var rfl) ha3) H3 (Ex.refl _) _ fun H4 e4 => ?_
        by_cases m : z ∈ L
        · rw [decide_eq_true m, if_pos rfl]
          refine ⟨_, rfl, _, e4 _ _ q2, ?_, Ex.mut (q1.trans e4) nD2, ?_⟩
          · rw [List.length_map]
            refine sz_lt ?_
            have l1 := List.length_filter_le (fun z => decide (z ∈ L)) ((ss.flatMap twoOf).take i)
            have l2 := List.length_take_le' i (ss.flatMap twoOf)
            rw [two_len] at l2
            omega
          · rw [upd_same, List.take_add_one, hz]
            simp [m]
        · rw [decide_eq_false m, if_neg (by decide)]
          refine ⟨q1.trans e4, ?_⟩
          rw [e4 _ _ q2, List.take_add_one, hz]
          simp [m]
      · rintro H3 ⟨q1, q2⟩
        rw [List.length_map, List.take_length, pick_all] at q2
        exact good yes ss od D2 H3 (fresh_back (eH.trans e3) nD2) ((eH.trans e3).trans q1) q2
/-! ### drawn words and names -/
theorem app_codes (x y : Str) : (x ++ y).cps.toList = x.cps.toList ++ y.cps.toList := Array.toList_append ..
theorem sg_codes (c : Nat) : (⟨#[c]⟩ : Str).cps.toList = [c] := rfl
theorem take_min (l : List Nat) (i : Nat) : l.take (min i l.length) = l.take i := by
  rw [← List.take_take, List.take_length]
theorem drop_min (l : List Nat) (i : Nat) : l.drop (min i l.length) = l.drop i := by
  by_cases h : i ≤ l.length
  · rw [Nat.min_eq_left h]
  · rw [Nat.min_eq_right (by omega), List.drop_length, List.drop_eq_nil_of_le (by omega)]
theorem codes_len (z : Str) : z.cps.toList.length = z.length := Array.length_toList
theorem sIx_of (n d : Nat) {i : Int} (h : 0 ≤ i) : HT.sIx n d (some i) = min i.toNat n := by
  obtain ⟨k, rfl⟩ := Int.eq_ofNat_of_zero_le h
  exact HT.sIx_nat n d k
theorem cut_to (z : Str) {i : Int} (h : 0 ≤ i) : (cutS z none (some i)).cps.toList = z.cps.toList.take i.toNat := by
  show ((z.cps.toList.drop (HT.sIx z.length 0 none)).take (HT.sIx z.length z.length (some i) - HT.sIx z.length 0 none)).toArray.toList = _
  rw [sIx_of _ _ h, HT.sIx_none, List.drop_zero, Nat.sub_zero, ← codes_len]
  exact take_min _ _
theorem cut_mid (z : Str) {i j : Int} (h : 0 ≤ i) (h2 : 0 ≤ j) : (cutS z (some i) (some j)).cps.toList = (z.cps.toList.drop i.toNat).take (j.toNat - i.toNat) := by
  show ((z.cps.toList.drop (HT.sIx z.length 0 (some i))).take (HT.sIx z.length z.length (some j) - HT.sIx z.length 0 (some i))).toArray.toList = _
  rw [sIx_of _ _ h, sIx_of _ _ h2, ← codes_len, drop_min]
  show List.take _ _ = _
  have e := take_min (z.cps.toList.drop i.toNat) (j.toNat - i.toNat)
  rw [← e, List.length_drop]
  by_cases c : i.toNat ≤ z.cps.toList.length
  · have q : min j.toNat z.cps.toList.length - min i.toNat z.cps.toList.length = min (j.toNat - i.toNat) (z.cps.toList.length - i.toNat) := by omega
    rw [q]
  · rw [List.drop_eq_nil_of_le (by omega), List.take_nil, List.take_nil]
theorem cut_fr (z : Str) {i : Int} (h : 0 ≤ i) : (cutS z (some i) none).cps.toList = z.cps.toList.drop i.toNat := by
  show ((z.cps.toList.drop (HT.sIx z.length 0 (some i))).take (HT.sIx z.length z.length none - HT.sIx z.length 0 (some i))).toArray.toList = _
  rw [sIx_of _ _ h, HT.sIx_none, ← codes_len, drop_min]
  show List.take _ _ = _
  refine List.take_of_length_le ?_
  rw [List.length_drop]; omega
structure Wd (n : Nat) (z : Str) : Prop where
  len : z.cps.toList.length = n
  head : z.cps.toList.head?.any ltr = true
  all : z.cps.toList.all lod = true
theorem lod_small {c : Nat} (h : lod c = true) : c < 128 := by
  have q : ∀ c ∈ ("abcdefghijklmnopqrstuvwxyz0123456789" : Str).cps.toList, c < 128 := by decide
  exact q c (of_decide_eq_true h)
theorem ltr_lod {c : Nat} (h : ltr c = true) : lod c = true := by rw [lod_eq, h] <;> rfl
theorem Wd.txt {n : Nat} {z : Str} (h : Wd n z) : Txt8 n z := by
  refine ⟨?_, fun c hc => lod_small (List.all_eq_true.mp h.all c hc)⟩
  rw [← Array.length_toList, h.len]
  exact Nat.le_refl _
theorem Wd.push {n : Nat} {z : Str} {c : Nat} (h : Wd n z) (hn : 1 ≤ n) (hc : lod c = true) : Wd (n + 1) (z ++ ⟨#[c]⟩) := by
  have e := app_codes z ⟨#[c]⟩
  rw [sg_codes] at e
  refine ⟨?_, ?_, ?_⟩
  · rw [e, List.length_append, h.len] <;> rfl
  · rw [e]
    cases q : z.cps.toList with
    | nil => have z1 := h.len; rw [q] at z1; simp at z1; omega
    | cons x r => have z1 := h.head; rw [q] at z1; exact z1
  · rw [e, List.all_append, h.all]
    simp [hc]
theorem Wd.one {c : Nat} (h : ltr c = true) : Wd 1 ⟨#[c]⟩ := ⟨rfl, by rw [sg_codes]; exact h, by rw [sg_codes]; simp [ltr_lod h]⟩
/-- a letter of the alphabet; one of the 36 signs -/
theorem ltr_at {i c : Nat} (h : ("abcdefghijklmnopqrstuvwxyz" : Str).cps[i]? = some c) : ltr c = true := by
  rw [← Array.getElem?_toList] at h
  exact decide_eq_true (List.mem_of_getElem? h)
theorem lod_at {i c : Nat} (h : ("0123456789abcdefghijklmnopqrstuvwxyz" : Str).cps[i]? = some c) : lod c = true := by
  rw [← Array.getElem?_toList] at h
  have q : ∀ c ∈ ("0123456789abcdefghijklmnopqrstuvwxyz" : Str).cps.toList, lod c = true := by decide
  exact q c (List.mem_of_getElem? h)
theorem nm_of {l1 l2 : List Nat} {c : Nat} {z : Str} (e : z.cps.toList = l1 ++ [c] ++ l2) (h1 : l1 = [] ∨ l1.head?.any ltr = true) (a1 : l1.all lod = true) (a2 : l2.all lod = true) (hc : ltr c = true) (len : l1.length + 1 + l2.length ≤ 8) : isName z = true := by
  unfold isName nameL
  rw [e]
  have ln : (l1 ++ [c] ++ l2).length = l1.length + 1 + l2.length := by rw [List.length_append, List.length_append] <;> rfl
  rw [ln, decide_eq_true (show 1 ≤ l1.length + 1 + l2.length by omega), decide_eq_true len]
  have hd : (l1 ++ [c] ++ l2).head?.any ltr = true := by
    cases l1 with
    | nil => exact hc
    | cons x r => rcases h1 with h | h
                  · cases h
                  · exact h
  have al : (l1 ++ [c] ++ l2).all lod = true := by
    rw [List.all_append, List.all_append, a1, a2]
    simp [ltr_lod hc]
  rw [hd, al]
  rfl
theorem all_take {l : List Nat} (h : l.all lod = true) (n : Nat) : (l.take n).all lod = true := List.all_eq_true.mpr fun c hc => List.all_eq_true.mp h c (List.mem_of_mem_take hc)
theorem all_drop {l : List Nat} (h : l.all lod = true) (n : Nat) : (l.drop n).all lod = true := List.all_eq_true.mpr fun c hc => List.all_eq_true.mp h c (List.mem_of_mem_drop hc)
theorem head_take {l : List Nat} (h : l.head?.any ltr = true) (n : Nat) : l.take n = [] ∨ (l.take n).head?.any ltr = true := by
  cases n with
  | zero => exact .inl List.take_zero
  | succ n => cases l with
    | nil => exact .inl List.take_nil
    | cons x r => exact .inr h
theorem name_len {z : Str} (h : isName z = true) : 1 ≤ z.cps.toList.length ∧ z.cps.toList.length ≤ 8 ∧ z.cps.toList.head?.any ltr = true ∧ z.cps.toList.all lod = true := by
  unfold isName nameL at h
  simp only [Bool.and_eq_true, decide_eq_true_eq] at h
  exact ⟨h.1, h.2.1, h.2.2.1, h.2.2.2⟩
theorem name_txt {z : Str} (h : isName z = true) : Txt8 8 z := by
  obtain ⟨_, h8, _, al⟩ := name_len h
  refine ⟨?_, fun c hc => lod_small (List.all_eq_true.mp al c hc)⟩
  rw [← Array.length_toList]; exact h8
/-- _law_word(source, size) -/
def spWordL : Sp := fun vs H Q _ => ∃ (a l : Addr) (ns : List Int) (n : Int), vs = [.ref a, .int n] ∧ SrcL H a l ns ∧ 1 ≤ n ∧ n ≤ 8 ∧ ∀ H' z, Wd n.toNat z → SrcL H' a l ns → But a H H' → Q (.str z) H'
theorem okL__law_word (T : Txt P K mg) : FnOk P w K mg base CX0 2 T.f__law_word T.d__law_word ["_law_source_here", "_law_size"] spWordL := by
  refine T.F__law_word.ok sc__law_word (fun vs H Q E h => ?_) (fun cdv A outer s H vs Q E hr h => ?_)
  · obtain ⟨a, l, ns, n, rfl, _⟩ := h
    rfl
  · obtain ⟨a, l, ns, n, rfl, S, h1, h8, q⟩ := h
    refine ⟨_, (pss_cons (ps_set (i := 2) sc__law_word.nd rfl (.inl rfl) pe_str)
      (pss_cons (ps_set (i := 3) sc__law_word.nd rfl (.inl rfl) pe_str)
      (pss_cons (ps_set (i := 4) sc__law_word.nd rfl (.inl rfl) (pe_item_str (pv 2) (pe_call (okL__law_take T) (hr.mono (by decide)) rfl T.g__law_take T.F__law_take.kp T.b__law_take .nil pass0 (pa_cons (pv 0) (pa_cons pe_int pa_nil))) (fun _ _ => rfl)))
      (pss_cons (ps_set (i := 5) sc__law_word.nd rfl (.inl rfl) (pe_call (okL__law_take T) (hr.mono (by decide)) rfl T.g__law_take T.F__law_take.kp T.b__law_take .nil pass0 (pa_cons (pv 0) (pa_cons (pe_op op_pow pe_int pe_int) pa_nil))))
      (pss_cons (ps_for PassesOwn.never rfl (pi_range1 rfl T.n_range (pa_cons (pe_op op_sub (pv 1) pe_int) pa_nil)) (pg_name (i := 6) sc__law_word.nd rfl (.inl rfl)) (pss_cons (ps_set (i := 4) sc__law_word.nd rfl (.inl rfl) (pe_op op_add_str (pv 4) (pe_item_str (pv 3) (pe_op op_modN (pe_callTy call_int1 (by rfl) T.n_int (by decide +kernel) (pa_cons (pv 5) pa_nil)) pe_int) (fun _ _ => rfl))))
      (pss_one (ps_set (i := 5) sc__law_word.nd rfl (.inl rfl) (pe_op op_fdivW (pv 5) pe_int)))))
      (pss_one (ps_ret (pv 4)))))))), ?_⟩
    refine ⟨_, rfl, .ref a, rfl, a, 26, l, ns, rfl, S, by decide, by decide, fun H1 r r0 r1 S1 B1 => ?_⟩
    obtain ⟨c, hc, hl, tc⟩ := item_of (z := "abcdefghijklmnopqrstuvwxyz") r0 r1 (by decide) (by decide)
    refine ⟨_, _, c, rfl, rfl, r0, by omega, hl, hc, .ref a, rfl, _, _, rfl, rfl, ⟨by decide, by decide, by decide⟩, a, _, l, ns, rfl, S1, by decide, by decide, fun H2 r2 r20 r21 S2 B2 => ?_⟩
    refine ⟨_, rfl, _, _, rfl, rfl, n - 1, rfl, by omega, by omega, for_range (lo := 0) (n := (n - 1).toNat) (fun i σ H' => ∃ (z : Str) (y : Int) (v : Option V), σ = [some (.ref a), some (.int n), some (.str "abcdefghijklmnopqrstuvwxyz"), some (.str "0123456789abcdefghijklmnopqrstuvwxyz"), some (.str z), some (.int y), v] ∧ Wd (i + 1) z ∧ H' = H2) ⟨_, _, _, rfl, Wd.one (ltr_at hc), rfl⟩ ?_ ?_⟩
    · rintro i σ H' hi ⟨z, y, v, rfl, tz, rfl⟩
      obtain ⟨c2, hc2, hl2, tc2⟩ := item_of (z := "0123456789abcdefghijklmnopqrstuvwxyz") (fmod_lo y (m := 36) (by decide)) (fmod_hi y (m := 36) (by decide)) (by decide) (by decide)
      have f1 := fmod_lo y (m := 36) (by decide)
      have f2 := fmod_hi y (m := 36) (by decide)
      refine ⟨_, rfl, _, rfl, _, rfl, .inl ⟨_, rfl, _, _, rfl, rfl, (show (36 : Int) ≠ 0 by decide), _, _, c2, rfl, rfl, f1, by omega, hl2, hc2, _, _, rfl, rfl, line_of (by have h1 := tz.txt.1; have h2 : z.length = z.cps.size := rfl; show z.length + 1 ≤ 1000; omega), ?_⟩⟩
      refine ⟨_, rfl, _, _, rfl, rfl, wide_div (b := 64) (by decide) (by decide) (by decide) (by decide), ?_⟩
      exact ⟨_, _, _, rfl, tz.push (by omega) (lod_at hc2), rfl⟩
    · rintro σ H' ⟨z, y, v, rfl, tz, rfl⟩
      have e : (n - 1).toNat + 1 = n.toNat := by omega
      rw [e] at tz
      exact ⟨_, rfl, q _ z tz S2 (B1.trans B2)⟩
theorem srl_put {H : Hp} {u l0 l : Addr} {ns : List Int} {o : HO} (S : SrcL H u l0 ns) (h1 : l ≠ u) (h2 : l ≠ l0) : SrcL (upd H l o) u l0 ns := by
  obtain ⟨⟨i, x, k, m, h0, h⟩, hl⟩ := S
  exact ⟨⟨i, x, k, m, h0, by rw [upd_ne h1.symm]; exact h⟩, by rw [upd_ne h2.symm]; exact hl⟩
theorem srl_ex {H H' : Hp} {u l0 : Addr} {ns : List Int} (S : SrcL H u l0 ns) (e : Evl.Ex H H') : SrcL H' u l0 ns := by
  obtain ⟨⟨i, x, k, m, h0, h⟩, hl⟩ := S
  exact ⟨⟨i, x, k, m, h0, e _ _ h⟩, e _ _ hl⟩
theorem srl_at {H : Hp} {u l0 : Addr} {ns : List Int} (S : SrcL H u l0 ns) : ∃ o, H u = some o := let ⟨⟨_, _, _, _, _, h⟩, _⟩ := S; ⟨_, h⟩
theorem srl_off {H : Hp} {u l0 p : Addr} {ns : List Int} (S : SrcL H u l0 ns) (hp : H p = none) : p ≠ u ∧ p ≠ l0 := by
  obtain ⟨⟨i, x, k, m, h0, h⟩, hl⟩ := S
  exact ⟨fun e => (by rw [e, h] at hp; cases hp), fun e => (by rw [e, hl] at hp; cases hp)⟩
theorem srl_new {H : Hp} {u l0 p : Addr} {ns : List Int} {o : HO} (S : SrcL H u l0 ns) (hp : H p = none) : SrcL (upd H p o) u l0 ns := srl_put S (srl_off S hp).1 (srl_off S hp).2
theorem But.upd2 {a p : Addr} {H H1 : Hp} {o : HO} (x : But a H H1) (hp : H p = none) : But a H (L2.upd H1 p o) := fun b u n h => by
  rw [upd_ne (ne_of_none h hp)]
  exact x b u n h
theorem But.fresh {a p : Addr} {H H1 : Hp} (x : But a H H1) (S : ∃ o, H a = some o) (hp : H1 p = none) (hpa : p ≠ a) : H p = none := by
  cases e : H p with
  | none => rfl
  | some o => have z := x p o hpa e; rw [hp] at z; cases z
/-- the letter at a place of the alphabet -/
def abc (i : Int) : Option Nat := ("abcdefghijklmnopqrstuvwxyz" : Str).cps[(Int.fmod i 26).toNat]?
theorem abc_inj : ∀ i j : Fin 26, ("abcdefghijklmnopqrstuvwxyz" : Str).cps[i.val]? = ("abcdefghijklmnopqrstuvwxyz" : Str).cps[j.val]? → i = j := by decide +kernel
theorem abc_eq {i j : Int} (h : abc i = abc j) : i % 26 = j % 26 := by
  unfold abc at h
  have e1 : Int.fmod i 26 = i % 26 := Int.fmod_eq_emod_of_nonneg i (by decide)
  have e2 : Int.fmod j 26 = j % 26 := Int.fmod_eq_emod_of_nonneg j (by decide)
  rw [e1, e2] at h
  have z := abc_inj ⟨(i % 26).toNat, by omega⟩ ⟨(j % 26).toNat, by omega⟩ h
  have y := congrArg Fin.val z
  dsimp only at y
  omega
/-- different letters at one place -/
theorem apart_names {nms : List Str} {pos : Nat} {sh pc : Int} (many : nms.length ≤ 26) (hp : pc = 1 ∨ pc = 5 ∨ pc = 7 ∨ pc = 25) (h : ∀ (j : Nat) (hj : j < nms.length), (nms[j]).cps.toList[pos]? = abc (sh + pc * (j : Int))) : nms.Nodup := by
  rw [List.Nodup, List.pairwise_iff_getElem]
  intro i j hi hj lt e
  have a := h i hi
  have b := h j hj
  rw [e, b] at a
  have z := abc_eq a
  rcases hp with rfl | rfl | rfl | rfl <;> omega
theorem mid_at {l1 l2 : List Nat} {c k : Nat} (h : l1.length = k) : (l1 ++ (⟨#[c]⟩ : Str).cps.toList ++ l2)[k]? = some c := by
  subst h
  show (l1 ++ [c] ++ l2)[l1.length]? = some c
  rw [List.append_assoc, List.getElem?_append_right (Nat.le_refl _), Nat.sub_self]
  rfl
theorem len_codes (z : Str) : (z.length : Nat) = z.cps.toList.length := (codes_len z).symm
/-- _law_names(source, many) -/
def spNamesL : Sp := fun vs H Q _ => ∃ (a l : Addr) (ns : List Int) (many : Int), vs = [.ref a, .int many] ∧ SrcL H a l ns ∧ 1 ≤ many ∧ many ≤ 26 ∧ ∀ (H' : Hp) (p : Addr) (nms : List Str), H p = none → SrcL H' a l ns → But a H H' → H' p = some (.lst (nms.map V.str)) → nms.length = many.toNat → (∀ z ∈ nms, isName z = true) → nms.Nodup → Q (.ref p) H'
theorem ok__law_names (T : Txt P K mg) : FnOk P w K mg base CX0 3 T.f__law_names T.d__law_names ["_law_source_here", "_law_many"] spNamesL := by
  refine T.F__law_names.ok sc__law_names (fun vs H Q E h => ?_) (fun cdv A outer s H vs Q E hr h => ?_)
  · obtain ⟨a, l, ns, many, rfl, _⟩ := h
    rfl
  · obtain ⟨a, l, ns, many, rfl, S, m1, m14, q⟩ := h
    refine ⟨_, (pss_cons (ps_set (i := 2) sc__law_names.nd rfl (.inl rfl) pe_str)
      (pss_cons (ps_set (i := 3) sc__law_names.nd rfl (.inl rfl) (pe_call (okL__law_take T) (hr.mono (by decide)) rfl T.g__law_take T.F__law_take.kp T.b__law_take .nil pass0 (pa_cons (pv 0) (pa_cons pe_int pa_nil))))
      (pss_cons (ps_set (i := 4) sc__law_names.nd rfl (.inl rfl) (pe_op op_add pe_int (pe_call (okL__law_take T) (hr.mono (by decide)) rfl T.g__law_take T.F__law_take.kp T.b__law_take .nil pass0 (pa_cons (pv 0) (pa_cons pe_int pa_nil)))))
      (pss_cons (ps_set (i := 5) sc__law_names.nd rfl (.inl rfl) (pe_call (okL__law_take T) (hr.mono (by decide)) rfl T.g__law_take T.F__law_take.kp T.b__law_take .nil pass0 (pa_cons (pv 0) (pa_cons (pv 4) pa_nil))))
      (pss_cons (ps_set (i := 6) sc__law_names.nd rfl (.inl rfl) (pe_call (okL__law_word T) (hr.mono (by decide)) rfl T.g__law_word T.F__law_word.kp T.b__law_word .nil pass0 (pa_cons (pv 0) (pa_cons (pv 4) pa_nil))))
      (pss_cons (ps_set (i := 7) sc__law_names.nd rfl (.inl rfl) (pe_call (okL__law_take T) (hr.mono (by decide)) rfl T.g__law_take T.F__law_take.kp T.b__law_take .nil pass0 (pa_cons (pv 0) (pa_cons pe_int pa_nil))))
      (pss_cons (ps_set (i := 8) sc__law_names.nd rfl (.inl rfl) (pe_ix ix_list (pe_lst (pa_cons pe_int (pa_cons pe_int (pa_cons pe_int (pa_cons pe_int pa_nil))))) (pe_call (okL__law_take T) (hr.mono (by decide)) rfl T.g__law_take T.F__law_take.kp T.b__law_take .nil pass0 (pa_cons (pv 0) (pa_cons pe_int pa_nil))) (fun _ _ => rfl)))
      (pss_cons (ps_set (i := 9) sc__law_names.nd rfl (.inl rfl) (pe_lst pa_nil))
      (pss_cons (ps_for PassesOwn.never rfl (pi_range1 rfl T.n_range (pa_cons (pv 1) pa_nil)) (pg_name (i := 10) sc__law_names.nd rfl (.inl rfl)) (pss_cons (ps_set (i := 11) sc__law_names.nd rfl (.inl rfl) (pe_item_str (pv 2) (pe_op op_modN (pe_callTy call_int1 (by rfl) T.n_int (by decide +kernel) (pa_cons (pe_op op_add (pv 7) (pe_op op_mul (pv 8) (pv 10))) pa_nil)) pe_int) (fun _ _ => rfl)))
      (pss_one (ps_if (pt_cmpR op_eq (pv 3) pe_int (nomark _)) (pss_one (ps_expr (pe_bm PySem.F.plainAttrs_list PySem.F.slot_list_append PySem.F.type_list_append mt_append (pv 9) (pa_cons (pe_op op_add_str (pe_op op_add_str (pe_slice sl_str (pv 6) po_none (po_some (pv 5))) (pv 11)) (pe_slice sl_str (pv 6) (po_some (pe_op op_add (pv 5) pe_int)) po_none)) pa_nil)))) (pss_one (ps_if (pt_cmpR op_eq (pv 3) pe_int (nomark _)) (pss_one (ps_expr (pe_bm PySem.F.plainAttrs_list PySem.F.slot_list_append PySem.F.type_list_append mt_append (pv 9) (pa_cons (pe_op op_add_str (pv 11) (pe_slice sl_str (pv 6) (po_some pe_int) (po_some (pe_op op_add pe_int (pe_call (okL__law_take T) (hr.mono (by decide)) rfl T.g__law_take T.F__law_take.kp T.b__law_take .nil pass0 (pa_cons (pv 0) (pa_cons pe_int pa_nil))))))) pa_nil)))) (pss_one (ps_expr (pe_bm PySem.F.plainAttrs_list PySem.F.slot_list_append PySem.F.type_list_append mt_append (pv 9) (pa_cons (pe_op op_add_str (pe_op op_add_str (pe_slice sl_str (pv 6) po_none (po_some (pv 5))) (pv 11)) (pe_slice sl_str (pe_call (okL__law_word T) (hr.mono (by decide)) rfl T.g__law_word T.F__law_word.kp T.b__law_word .nil pass0 (pa_cons (pv 0) (pa_cons (pe_op op_sub pe_int (pv 5)) pa_nil))) po_none (po_some (pe_call (okL__law_take T) (hr.mono (by decide)) rfl T.g__law_take T.F__law_take.kp T.b__law_take .nil pass0 (pa_cons (pv 0) (pa_cons (pe_op op_sub pe_int (pv 5)) pa_nil)))))) pa_nil))))))))))
      (pss_one (ps_ret (pv 9)))))))))))), ?_⟩
    refine ⟨.ref a, rfl, a, 3, l, ns, rfl, S, by decide, by decide, fun H1 st st0 st1 S1 B1 => ?_⟩
    refine ⟨.ref a, rfl, a, 8, l, ns, rfl, S1, by decide, by decide, fun H2 n n0 n1 S2 B2 => ⟨_, _, rfl, rfl, ?_⟩⟩
    refine ⟨.ref a, rfl, _, rfl, a, 1 + n, l, ns, rfl, S2, by omega, by omega, fun H3 at_ t0 t1 S3 B3 => ?_⟩
    refine ⟨.ref a, rfl, _, rfl, a, l, ns, 1 + n, rfl, S3, by omega, by omega, fun H4 bs wb S4 B4 => ?_⟩
    refine ⟨.ref a, rfl, a, 26, l, ns, rfl, S4, by decide, by decide, fun H5 sh sh0 sh1 S5 B5 => ?_⟩
    refine ⟨(by show 4 ≤ sizeLine; decide), fun p0 hp0 => ⟨.ref a, rfl, a, 4, l, ns, rfl, srl_new S5 hp0, by decide, by decide, fun H6 r r0 r1 S6 B6 => ?_⟩⟩
    have B05 : But a H H5 := (((B1.trans B2).trans B3).trans B4).trans B5
    have hp06 : H6 p0 = some (.lst [.int 1, .int 5, .int 7, .int 25]) := B6 p0 _ (srl_off S5 hp0).1 upd_same
    obtain ⟨pc, hpc, pc0, pc1, pc4⟩ : ∃ pc : Int, ([V.int 1, .int 5, .int 7, .int 25] : List V)[r.toNat]? = some (.int pc) ∧ 0 ≤ pc ∧ pc ≤ 25 ∧ (pc = 1 ∨ pc = 5 ∨ pc = 7 ∨ pc = 25) := by
      have h2 : r = 0 ∨ r = 1 ∨ r = 2 ∨ r = 3 := by omega
      rcases h2 with rfl | rfl | rfl | rfl
      · exact ⟨1, rfl, by decide, by decide, by decide⟩
      · exact ⟨5, rfl, by decide, by decide, by decide⟩
      · exact ⟨7, rfl, by decide, by decide, by decide⟩
      · exact ⟨25, rfl, by decide, by decide, by decide⟩
    have B06 : But a H H6 := B05.trans fun b o n e => B6 b o n (by rw [upd_ne (ne_of_none e hp0)]; exact e)
    refine ⟨p0, _, r, _, rfl, rfl, SqL.of hp06, at_of (by omega) hpc, ?_⟩
    refine ⟨(by show 0 ≤ sizeLine; decide), fun p np => ?_⟩
    have offp := srl_off S6 np
    have np0 : H p = none := B06.fresh (srl_at S) np offp.1
    have wl : bs.cps.toList.length = (1 + n).toNat := wb.len
    have wt := wb.txt
    have wz : bs.length ≤ 8 := by rw [len_codes, wl]; omega
    refine ⟨_, rfl, many, rfl, by omega, by omega, for_range (lo := 0) (n := many.toNat) (fun i σ H' => ∃ (nms : List Str) (v10 v11 : Option V), σ = [some (.ref a), some (.int many), some (.str "abcdefghijklmnopqrstuvwxyz"), some (.int st), some (.int (1 + n)), some (.int at_), some (.str bs), some (.int sh), some (.int pc), some (.ref p), v10, v11] ∧
      SrcL H' a l ns ∧ But a H H' ∧ H' p = some (.lst (nms.map V.str)) ∧ nms.length = i ∧ (∀ z ∈ nms, isName z = true) ∧ ∀ (j : Nat) (hj : j < nms.length), (nms[j]).cps.toList[(if st = 1 then 0 else at_.toNat)]? = abc (sh + pc * (j : Int))) ⟨[], _, _, rfl, srl_new S6 np, B06.upd2 np0, upd_same, rfl, (fun z hz => (by cases hz)), fun j hj => absurd hj (by simp)⟩ ?_ ?_⟩
    · rintro i σ H7 hi ⟨nms, v10, v11, rfl, S7, B7, h7, cnt, ok, key⟩
      obtain ⟨c, hc, hl, tc⟩ := item_of (z := "abcdefghijklmnopqrstuvwxyz") (fmod_lo (sh + pc * (0 + (i : Int))) (m := 26) (by decide)) (fmod_hi (sh + pc * (0 + (i : Int))) (m := 26) (by decide)) (by decide) (by decide)
      have f1 := fmod_lo (sh + pc * (0 + (i : Int))) (m := 26) (by decide)
      have f2 := fmod_hi (sh + pc * (0 + (i : Int))) (m := 26) (by decide)
      have lc := ltr_at hc
      refine ⟨_, rfl, _, rfl, _, rfl, _, rfl, _, _, rfl, rfl, .inl ⟨by omega, by omega⟩, _, _, rfl, rfl, .inl ⟨_, rfl, _, _, rfl, rfl, (show (26 : Int) ≠ 0 by decide), _, _, c, rfl, rfl, f1, by omega, hl, hc, ?_⟩⟩
      -- the end of a turn
      have fin : ∀ H8 (z : Str), SrcL H8 a l ns → But a H H8 → H8 p = some (.lst (nms.map V.str)) → isName z = true → z.cps.toList[(if st = 1 then 0 else at_.toNat)]? = some c → ∃ (nms' : List Str) (v10 v11 : Option V), [some (V.ref a), some (.int many), some (.str "abcdefghijklmnopqrstuvwxyz"), some (.int st), some (.int (1 + n)), some (.int at_), some (.str bs), some (.int sh), some (.int pc), some (.ref p), some (V.int (0 + (i : Int))), some (V.str ⟨#[c]⟩)] = [some (.ref a), some (.int many), some (.str "abcdefghijklmnopqrstuvwxyz"), some (.int st), some (.int (1 + n)), some (.int at_), some (.str bs), some (.int sh), some (.int pc), some (.ref p), v10, v11] ∧
          SrcL (upd H8 p (.lst (nms.map V.str ++ [.str z]))) a l ns ∧ But a H (upd H8 p (.lst (nms.map V.str ++ [.str z]))) ∧ (upd H8 p (.lst (nms.map V.str ++ [.str z]))) p = some (.lst (nms'.map V.str)) ∧ nms'.length = i + 1 ∧ (∀ z ∈ nms', isName z = true) ∧ ∀ (j : Nat) (hj : j < nms'.length), (nms'[j]).cps.toList[(if st = 1 then 0 else at_.toNat)]? = abc (sh + pc * (j : Int)) :=
        fun H8 z S8 B8 h8 hz hk => ⟨nms ++ [z], _, _, rfl, srl_put S8 offp.1 offp.2, B8.upd2 np0, by rw [upd_same, List.map_append] <;> rfl, by rw [List.length_append, cnt] <;> rfl, (fun y hy => by
          rcases List.mem_append.mp hy with h | h
          · exact ok y h
          · have e : y = z := by simpa using h
            rw [e]; exact hz), fun j hj => by
          by_cases c1 : j < nms.length
          · rw [List.getElem_append_left c1]; exact key j c1
          · rw [List.length_append, List.length_singleton] at hj
            have e : j = i := by omega
            subst e
            rw [List.getElem_append_right (by omega)]
            simp only [cnt, Nat.sub_self, List.getElem_singleton]
            rw [hk, ← hc]
            unfold abc
            rw [Int.zero_add]⟩
      have few : (nms.map V.str).length < sizeLine := by rw [List.length_map, cnt]; exact Evl.sz_lt (by omega)
      refine ⟨_, rfl, rfl, _, rfl, ite2 (fun e => ?_) (fun e => ?_)⟩
      · refine ⟨.ref p, rfl, Or.inl ⟨rfl, _, SqL.of h7⟩, ?_⟩
        refine ⟨_, rfl, _, rfl, _, rfl, _, rfl, line_of (by omega), _, rfl, _, _, rfl, rfl, line_of ?_, _, rfl, _, rfl, _, _, rfl, rfl, _, rfl, _, rfl, line_of (by omega), _, _, rfl, rfl, line_of ?_, ?_⟩
        · have := len_codes (cutS bs none (some at_)); have := congrArg List.length (cut_to bs t0); rw [List.length_take] at this; show _ + 1 ≤ _; omega
        · have := len_codes (cutS bs none (some at_) ++ ⟨#[c]⟩); have e1 := congrArg List.length (app_codes (cutS bs none (some at_)) ⟨#[c]⟩); rw [List.length_append, cut_to bs t0, List.length_take] at e1
          have := len_codes (cutS bs (some (at_ + 1)) none); have e2 := congrArg List.length (cut_fr bs (i := at_ + 1) (by omega)); rw [List.length_drop] at e2
          have e3 : (⟨#[c]⟩ : Str).cps.toList.length = 1 := rfl
          omega
        · refine ⟨p, _, _, rfl, rfl, h7, few, fin H7 _ S7 B7 h7 ?_ ?_⟩
          · refine nm_of (l1 := bs.cps.toList.take at_.toNat) (l2 := bs.cps.toList.drop (at_ + 1).toNat) (c := c) ?_ (head_take wb.head _) (all_take wb.all _) (all_drop wb.all _) lc ?_
            · rw [app_codes, app_codes, cut_to bs t0, cut_fr bs (by omega)] <;> rfl
            · rw [List.length_take, List.length_drop]; omega
          · have st0 : st = 0 := V.int.inj (of_decide_eq_true e)
            rw [if_neg (by omega), app_codes, app_codes, cut_to bs t0]
            exact mid_at (by rw [List.length_take]; omega)
      · refine ⟨_, rfl, rfl, _, rfl, ite2 (fun e2 => ?_) (fun e2 => ?_)⟩
        · refine ⟨.ref p, rfl, Or.inl ⟨rfl, _, SqL.of h7⟩, ?_⟩
          refine ⟨_, rfl, _, rfl, 1, rfl, .ref a, rfl, a, 8, l, ns, rfl, S7, by decide, by decide, fun H8 tt t0' t1' S8 B8 => ⟨_, _, rfl, rfl, _, rfl, bs, rfl, line_of (by omega), _, _, rfl, rfl, line_of ?_, ?_⟩⟩
          · have := len_codes (cutS bs (some 1) (some (1 + tt))); have e3 := congrArg List.length (cut_mid bs (i := 1) (j := 1 + tt) (by decide) (by omega)); rw [List.length_take, List.length_drop] at e3
            show 1 + _ ≤ _; omega
          · refine ⟨p, _, _, rfl, rfl, B8 p _ offp.1 h7, few, fin H8 _ S8 (B7.trans B8) (B8 p _ offp.1 h7) ?_ ?_⟩
            · refine nm_of (l1 := []) (l2 := (bs.cps.toList.drop (1 : Int).toNat).take ((1 + tt).toNat - (1 : Int).toNat)) (c := c) ?_ (.inl rfl) rfl (all_take (all_drop wb.all _) _) lc ?_
              · rw [app_codes, cut_mid bs (by decide) (by omega)] <;> rfl
              · rw [List.length_take, List.length_drop]; show 0 + 1 + _ ≤ _; omega
            · rw [if_pos (V.int.inj (of_decide_eq_true e2)), app_codes]
              rfl
        · refine ⟨.ref p, rfl, Or.inl ⟨rfl, _, SqL.of h7⟩, ?_⟩
          refine ⟨_, rfl, _, rfl, _, rfl, _, rfl, line_of (by omega), _, rfl, _, _, rfl, rfl, line_of ?_, .ref a, rfl, _, rfl, _, _, rfl, rfl, a, l, ns, 8 - at_, rfl, S7, by omega, by omega, fun H8 wd ww S8 B8 => ?_⟩
          · have := len_codes (cutS bs none (some at_)); have := congrArg List.length (cut_to bs t0); rw [List.length_take] at this; show _ + 1 ≤ _; omega
          · have wwl := ww.len
            refine ⟨.ref a, rfl, _, rfl, _, _, rfl, rfl, a, 8 - at_, l, ns, rfl, S8, by omega, by omega, fun H9 tt t0' t1' S9 B9 => ⟨_, rfl, wd, rfl, line_of (by rw [len_codes]; omega), _, _, rfl, rfl, line_of ?_, ?_⟩⟩
            · have := len_codes (cutS bs none (some at_) ++ ⟨#[c]⟩); have e1 := congrArg List.length (app_codes (cutS bs none (some at_)) ⟨#[c]⟩); rw [List.length_append, cut_to bs t0, List.length_take] at e1
              have := len_codes (cutS wd none (some tt)); have e2 := congrArg List.length (cut_to wd t0'); rw [List.length_take] at e2
              have e3 : (⟨#[c]⟩ : Str).cps.toList.length = 1 := rfl
              omega
            · have h9 := B9 p _ offp.1 (B8 p _ offp.1 h7)
              refine ⟨p, _, _, rfl, rfl, h9, few, fin H9 _ S9 ((B7.trans B8).trans B9) h9 ?_ ?_⟩
              · refine nm_of (l1 := bs.cps.toList.take at_.toNat) (l2 := wd.cps.toList.take tt.toNat) (c := c) ?_ (head_take wb.head _) (all_take wb.all _) (all_take ww.all _) lc ?_
                · rw [app_codes, app_codes, cut_to bs t0, cut_to wd t0'] <;> rfl
                · rw [List.length_take, List.length_take]; omega
              · have st1 : st ≠ 1 := fun h => e2 (decide_eq_true (by rw [h]))
                rw [if_neg st1, app_codes, app_codes, cut_to bs t0]
                exact mid_at (by rw [List.length_take]; omega)
    · rintro σ H7 ⟨nms, v10, v11, rfl, S7, B7, h7, cnt, ok, key⟩
      exact ⟨_, rfl, q H7 p nms np0 S7 B7 h7 cnt ok (apart_names (by omega) pc4 key)⟩
section
open Evl
/-- [g(z) for z in a list of texts if p(z)] -/
theorem el_fmS {σ : L2.St} {H : Hp} {a : Addr} {L : List Str} {tl te : TE} {tt : TT} {j : Nat} {vs : List Nat} (p : Str → Bool) (g : Str → Str) (h : Ev tl σ H (.ref a)) (hx : H a = some (.lst (L.map V.str))) (hz : L.length ≤ 40000) (hw : ∀ x, wipe ((wipe σ vs).set j (some x)) vs = wipe σ vs)
    (ht : ∀ z ∈ L, ∀ H1, Ex H H1 → EvT tt ((wipe σ vs).set j (some (.str z))) H1 (p z)) (he : ∀ z ∈ L, p z = true → ∀ H1, Ex H H1 → Ev te ((wipe σ vs).set j (some (.str z))) H1 (.str (g z))) :
    EvL (tLc (iList K tl) (gName j) tt te vs) σ H (((L.filter p).map g).map V.str) := fun H0 e Q q => h H0 e _ fun H1 e1 => by
  have e01 := e.trans e1
  refine ⟨a, rfl, ⟨_, sq_of (e01 _ _ hx)⟩, fun D nD => lc_list (K := K) (xs := L.map V.str) (fun i H' => Ex H1 H' ∧ H' D = some (.lst ((((L.take i).filter p).map g).map V.str))) ⟨Ex.new nD, upd_same⟩ (fun i H' _ x => sq_of (x.1 _ _ (e01 _ _ hx))) ?_ ?_⟩
  · rintro i x H3 hi ⟨q1, q2⟩
    obtain ⟨z, hz', rfl⟩ : ∃ z, L[i]? = some z ∧ V.str z = x := by
      rw [List.getElem?_map] at hi
      cases e : L[i]? with
      | none => rw [e] at hi; cases hi
      | some z => rw [e] at hi; exact ⟨z, rfl, Option.some.inj hi⟩
    have m := List.mem_of_getElem? hz'
    refine ⟨hw _, ?_⟩
    refine ht z m H3 (e01.trans q1) H3 (Ex.refl _) _ fun H4 e4 => ?_
    cases c : p z with
    | true =>
      rw [if_pos rfl]
      refine he z m c H4 ((e01.trans q1).trans e4) H4 (Ex.refl _) _ fun H5 e5 => ⟨_, e5 _ _ (e4 _ _ q2), ?_, Ex.mut ((q1.trans e4).trans e5) nD, ?_⟩
      · rw [List.length_map, List.length_map]
        have l1 := List.length_filter_le p (L.take i)
        have l2 := List.length_take_le' i L
        exact sz_lt (by omega)
      · rw [upd_same, List.take_add_one, hz']
        simp [c]
    | false =>
      rw [if_neg (by decide)]
      refine ⟨q1.trans e4, ?_⟩
      rw [e4 _ _ q2, List.take_add_one, hz']
      simp [c]
  · rintro H3 ⟨q1, q2⟩
    rw [List.length_map, List.take_length] at q2
    exact q D H3 (fresh_back e1 nD) (e1.trans q1) q2
theorem et_yes {σ : L2.St} {H : Hp} : EvT tYes σ H true := fun H1 e Q q => q H1 (Ex.refl H1)
theorem el_mpS {σ : L2.St} {H : Hp} {a : Addr} {L : List Str} {tl te : TE} {j : Nat} {vs : List Nat} (g : Str → Str) (h : Ev tl σ H (.ref a)) (hx : H a = some (.lst (L.map V.str))) (hz : L.length ≤ 40000) (hw : ∀ x, wipe ((wipe σ vs).set j (some x)) vs = wipe σ vs)
    (he : ∀ z ∈ L, ∀ H1, Ex H H1 → Ev te ((wipe σ vs).set j (some (.str z))) H1 (.str (g z))) : EvL (tLc (iList K tl) (gName j) tYes te vs) σ H ((L.map g).map V.str) := by
  have z := el_fmS (K := K) (tt := tYes) (te := te) (fun _ => true) g h hx hz hw (fun _ _ _ _ => et_yes) (fun z m _ => he z m)
  rw [List.filter_eq_self.mpr (fun _ _ => rfl)] at z
  exact z
theorem q_forCBL {te : TE} {r : List V → Hp → VK → Prop} {xs : List V} {g : TG} {tb tz : TS} {D : Ends} {σ : L2.St} {H : Hp} (h : EvL te σ H xs) (k : ∀ p H1, H p = none → Ex H H1 → H1 p = some (.lst xs) → tFor (iList K (fun _ H Q => r [.ref p] H Q)) g tb { D with nx := tz D } σ H1) :
    tSeq (tFor (iList K (tCB r (tCons te tNil))) g tb) tz D σ H := h H (Ex.refl H) _ fun p H1 a b c => k p H1 a b c
theorem q_forCL {te : TE} {sp : Sp} {E : XK} {xs : List V} {g : TG} {tb tz : TS} {D : Ends} {σ : L2.St} {H : Hp} (h : EvL te σ H xs) (k : ∀ p H1, H p = none → Ex H H1 → H1 p = some (.lst xs) → tFor (iList K (fun _ H Q => sp [.ref p] H Q E)) g tb { D with nx := tz D } σ H1) :
    tSeq (tFor (iList K (tCall sp [] E (tCons te tNil))) g tb) tz D σ H := h H (Ex.refl H) _ fun p H1 a b c => k p H1 a b c
/-- _law_sorted(names) -/
def spSorted : Sp := fun vs H Q _ => ∃ (a : Addr) (L : List Str), vs = [.ref a] ∧ H a = some (.lst (L.map V.str)) ∧ L.length ≤ 150 ∧ ∀ N, Ord L N → RetL (N.map V.str) H Q
theorem ok__law_sorted (T : Txt P K mg) : FnOk P w K mg base CX0 1 T.f__law_sorted T.d__law_sorted ["_law_names_here"] spSorted := by
  refine T.F__law_sorted.ok sc__law_sorted (fun vs H Q E h => ?_) (fun cdv A outer s H vs Q E hr h => ?_)
  · obtain ⟨a, L, rfl, _⟩ := h
    rfl
  · obtain ⟨a, L, rfl, ha, few, q⟩ := h
    refine ⟨_, (pss_cons (ps_set (i := 1) sc__law_sorted.nd rfl (.inl rfl) (pe_lst pa_nil))
      (pss_cons (ps_for PassesOwn.never rfl (pi_list (pe_callB cr_sortedSN (by rfl) T.n_sorted (by decide +kernel) (pa_cons (pe_lc (own := [("_law_each", 3)]) (g := gName 3) (by rfl) sc__law_sorted.nd (pi_list (pv 0)) (blkOk_by (own := [("_law_each", 3)]) (N := N__law_sorted) (sc := defScope s__law_sorted) (by decide +kernel)) (fun _ _ _ _ _ => pg_name (i := 3) sc__law_sorted.nd rfl (Or.inl rfl)) (fun _ _ _ _ _ => pts_nil) (fun _ _ _ _ _ => (pe_callTy SkE.call_str_str (by rfl) T.n_str (by decide +kernel) (pa_cons (pv 3) pa_nil)))) pa_nil))) (pg_name (i := 2) sc__law_sorted.nd rfl (.inl rfl)) (pss_one (ps_if (pt_cmpR op_notIn_seq (pv 2) (pv 1) (by rfl)) (pss_one (ps_expr (pe_bm PySem.F.plainAttrs_list PySem.F.slot_list_append PySem.F.type_list_append mt_append (pv 1) (pa_cons (pv 2) pa_nil)))) pss_nil)))
      (pss_one (ps_ret (pv 1))))), ?_⟩
    refine q_asgL (xs := []) (el_lst ea_nil (by decide)) (fun p H0 np e0 hp0 => ?_)
    have ha1 := e0 _ _ ha
    have copy : EvL (tLc (iList K (tVar 0)) (gName 3) tYes (tCB (fun xs H Q => ∃ a, xs = [V.str a] ∧ Q (.str a) H) (tCons (tVar 3) tNil)) [3]) [some (V.ref a), some (.ref p), none, none] H0 ((L.map fun z => z).map V.str) :=
      el_mpS (K := K) (fun z => z) (ev_var rfl) ha1 (by omega) (fun _ => rfl) (fun z m H1 e1 => ev_cb (ea_cons (ev_var rfl) ea_nil) fun H2 e2 Q q => ⟨z, rfl, q H2 (Ex.refl H2)⟩)
    rw [List.map_id'] at copy
    refine q_forCBL copy fun D H1 nD e1 hD => ⟨D, L, rfl, sq_of hD, sz_of (by omega), fun ys r pm so nr => ?_⟩
    have od := dd_ord pm so
    have hp1 : H1 p = some (.lst []) := e1 _ _ hp0
    have rp : r ≠ p := fun z => by rw [z, hp1] at nr; cases nr
    have eH : Ex H (upd H1 r (.lst (ys.map V.str))) := (e0.trans e1).trans (Ex.new nr)
    refine ⟨r, rfl, ⟨_, sq_of upd_same⟩, for_list (K := K) (xs := ys.map V.str) (fun i σ H' => ∃ v2 : Option V, σ = [some (V.ref a), some (.ref p), v2, none] ∧ Ex H H' ∧ H' r = some (.lst (ys.map V.str)) ∧ H' p = some (.lst ((dd [] (ys.take i)).map V.str)))
      ⟨none, rfl, eH, upd_same, by rw [upd_ne rp.symm]; exact hp1⟩ (fun i σ H' _ ⟨_, _, _, h, _⟩ => sq_of h) ?_ ?_⟩
    · rintro i x σ H2 hi ⟨v2, rfl, e2, hr2, hp2⟩
      obtain ⟨z, hz, rfl⟩ : ∃ z, ys[i]? = some z ∧ V.str z = x := by
        rw [List.getElem?_map] at hi
        cases e : ys[i]? with
        | none => rw [e] at hi; cases hi
        | some z => rw [e] at hi; exact ⟨z, rfl, Option.some.inj hi⟩
      have step : dd [] (ys.take (i + 1)) = if z ∈ dd [] (ys.take i) then dd [] (ys.take i) else dd [] (ys.take i) ++ [z] := by
        rw [List.take_add_one, hz]; exact dd_step [] _ z
      have dl : (dd [] (ys.take i)).length ≤ 150 := by
        have so2 := pw_sorted ys so
        obtain ⟨_, nd, mm⟩ := dd_spec (ys.take i) [] .nil (so2.sublist (List.take_sublist i ys))
        have l1 := perm_len_le (m := ys.take i) nd fun x hx => by simpa using (mm x).mp hx
        have l2 := List.length_take_le' i ys
        have l3 := pm.length_eq
        omega
      refine s_when (et_test (ev_niStr (ev_var rfl) (ev_var rfl) hp2)) (fun c H3 e3 => ?_) (fun c H3 e3 => ?_)
      · have c2 : z ∉ dd [] (ys.take i) := by simpa using c
        refine s_app (K := K) (e3 _ _ hp2) (ev_var rfl) (ev_var rfl) (by rw [List.length_map]; omega) fun H4 e4 => ⟨_, rfl, Ex.mut ((e2.trans e3).trans e4) np, ?_, ?_⟩
        · rw [upd_ne rp]; exact e4 _ _ (e3 _ _ hr2)
        · rw [upd_same, step, if_neg c2, List.map_append] <;> rfl
      · have c2 : z ∈ dd [] (ys.take i) := by simpa using c
        exact ⟨_, rfl, e2.trans e3, e3 _ _ hr2, by rw [step, if_pos c2]; exact e3 _ _ hp2⟩
    · rintro σ H2 ⟨v2, rfl, e2, hr2, hp2⟩
      rw [List.length_map, List.take_length] at hp2
      exact ⟨_, rfl, q _ od p H2 np e2 hp2⟩
theorem minus_len {n : Str} (h : n.cps.size ≤ 50) : ("-" : Str).length + n.length ≤ 1000 := by
  have h1 : ("-" : Str).length = 1 := by decide
  have h2 : n.length = n.cps.size := rfl
  omega
/-- _law_ordered(literals) -/
def spOrdered : Sp := fun vs H Q _ => ∃ (a : Addr) (L : List Str), vs = [.ref a] ∧ H a = some (.lst (L.map V.str)) ∧ L.length ≤ 40 ∧ (∀ z ∈ L, z.cps.size ≤ 50) ∧ ∀ N, Ord (L.map bare) N → RetL ((due L N).map V.str) H Q
theorem due_len {L N : List Str} : (due L N).length ≤ 2 * N.length := by
  have z := List.length_filter_le (fun z => decide (z ∈ L)) (N.flatMap twoOf)
  rw [pick_all, two_len] at z
  exact z
theorem due_step {L N : List Str} {i : Nat} {n : Str} (h : N[i]? = some n) : due L (N.take (i + 1)) = (due L (N.take i) ++ (if n ∈ L then [n] else [])) ++ (if "-" ++ n ∈ L then ["-" ++ n] else []) := by
  unfold due
  rw [List.take_add_one, h, List.flatMap_append, List.append_assoc]
  congr 1
  show ([n].flatMap (pick L)) = _
  unfold pick
  by_cases h1 : n ∈ L <;> by_cases h2 : "-" ++ n ∈ L <;> simp [h1, h2]
theorem ok__law_ordered (T : Txt P K mg) : FnOk P w K mg base CX0 2 T.f__law_ordered T.d__law_ordered ["_law_literals"] spOrdered := by
  refine T.F__law_ordered.ok sc__law_ordered (fun vs H Q E h => ?_) (fun cdv A outer s H vs Q E hr h => ?_)
  · obtain ⟨a, L, rfl, _⟩ := h
    rfl
  · obtain ⟨a, L, rfl, ha, few, short, q⟩ := h
    refine ⟨_, (pss_cons (ps_set (i := 1) sc__law_ordered.nd rfl (.inl rfl) (pe_lst pa_nil))
      (pss_cons (ps_for PassesOwn.never rfl (pi_list (pe_call (ok__law_sorted T) (hr.mono (by decide)) rfl T.g__law_sorted T.F__law_sorted.kp T.b__law_sorted .nil pass0 (pa_cons (pe_lc (own := [("_law_each", 3)]) (g := gName 3) (by rfl) sc__law_ordered.nd (pi_list (pv 0)) (blkOk_by (own := [("_law_each", 3)]) (N := N__law_ordered) (sc := defScope s__law_ordered) (by decide +kernel)) (fun _ _ _ _ _ => pg_name (i := 3) sc__law_ordered.nd rfl (Or.inl rfl)) (fun _ _ _ _ _ => pts_nil) (fun _ _ _ _ _ => (pe_call (ok__law_name T) (hr.mono (by decide)) rfl T.g__law_name T.F__law_name.kp T.b__law_name .nil pass0 (pa_cons (pv 3) pa_nil)))) pa_nil))) (pg_name (i := 2) sc__law_ordered.nd rfl (.inl rfl)) (pss_cons (ps_if (pt_cmpR op_in_seq (pv 2) (pv 0) (by rfl)) (pss_one (ps_expr (pe_bm PySem.F.plainAttrs_list PySem.F.slot_list_append PySem.F.type_list_append mt_append (pv 1) (pa_cons (pv 2) pa_nil)))) pss_nil)
      (pss_one (ps_if (pt_cmpR op_in_seq (pe_op op_add_str pe_str (pv 2)) (pv 0) (by rfl)) (pss_one (ps_expr (pe_bm PySem.F.plainAttrs_list PySem.F.slot_list_append PySem.F.type_list_append mt_append (pv 1) (pa_cons (pe_op op_add_str pe_str (pv 2)) pa_nil)))) pss_nil))))
      (pss_one (ps_ret (pv 1))))), ?_⟩
    refine q_asgL (xs := []) (el_lst ea_nil (by decide)) (fun p H0 np e0 hp0 => ?_)
    have ha1 := e0 _ _ ha
    have copy : EvL (tLc (iList K (tVar 0)) (gName 3) tYes (tCall (spPure fun z => .str (bare z)) [] E0 (tCons (tVar 3) tNil)) [3]) [some (V.ref a), some (.ref p), none, none] H0 ((L.map bare).map V.str) :=
      el_mpS (K := K) bare (ev_var rfl) ha1 (by omega) (fun _ => rfl) (fun z m H1 e1 => ev_call (ea_cons (ev_var rfl) ea_nil) fun H2 e2 Q q E => ⟨z, rfl, Nat.le_trans (short z m) (by decide), q⟩)
    refine q_forCL copy fun D H1 nD e1 hD => ⟨D, L.map bare, rfl, hD, by rw [List.length_map]; omega, fun N od r H2 nr e2 hr2 => ?_⟩
    have hp1 : H1 p = some (.lst []) := e1 _ _ hp0
    have hp2 := e2 _ _ hp1
    have rp : r ≠ p := fun z => by rw [z, hp1] at nr; cases nr
    have eH : Ex H H2 := (e0.trans e1).trans e2
    have nl : N.length ≤ 40 := by
      have l1 := perm_len_le od.nd fun x hx => (od.mem x).mp hx
      rw [List.length_map] at l1; omega
    have ns : ∀ n ∈ N, n.cps.size ≤ 50 := fun n hn => by
      obtain ⟨z, hz, rfl⟩ := List.mem_map.mp ((od.mem n).mp hn)
      exact Nat.le_trans (bare_len z) (short z hz)
    refine ⟨r, rfl, ⟨_, sq_of hr2⟩, for_list (K := K) (xs := N.map V.str) (fun i σ H' => ∃ v2 : Option V, σ = [some (V.ref a), some (.ref p), v2, none] ∧ Ex H H' ∧ H' r = some (.lst (N.map V.str)) ∧ H' p = some (.lst ((due L (N.take i)).map V.str)))
      ⟨none, rfl, eH, hr2, hp2⟩ (fun i σ H' _ ⟨_, _, _, h, _⟩ => sq_of h) ?_ ?_⟩
    · rintro i x σ H3 hi ⟨v2, rfl, e3, hr3, hp3⟩
      obtain ⟨n, hn, rfl⟩ : ∃ z, N[i]? = some z ∧ V.str z = x := by
        rw [List.getElem?_map] at hi
        cases e : N[i]? with
        | none => rw [e] at hi; cases hi
        | some z => rw [e] at hi; exact ⟨z, rfl, Option.some.inj hi⟩
      have nn := ns n (List.mem_of_getElem? hn)
      have dl : (due L (N.take i)).length ≤ 80 := by
        have l1 := due_len (L := L) (N := N.take i)
        have l2 := List.length_take_le' i N
        omega
      have minus : ∀ {σ : L2.St} {H : Hp}, σ[2]? = some (some (V.str n)) → Ev (tOp (fun x y H Q => ∃ i j, x = V.str i ∧ y = V.str j ∧ i.length + j.length ≤ sizeLine ∧ Q (V.str (i ++ j)) H) (tC (.str "-")) (tVar 2)) σ H (.str ("-" ++ n)) := fun h => ev_op ev_c (ev_var h) (fun H1 _ Q q => ⟨"-", n, rfl, rfl, line_of (minus_len nn), q H1 (Ex.refl H1)⟩)
      have ha3 := e3 _ _ ha
      have second : ∀ H4 (W : List Str), W.length ≤ 90 → Ex H H4 → H4 r = some (.lst (N.map V.str)) → H4 p = some (.lst (W.map V.str)) → ∀ (D : Ends), (∀ H5, Ex H H5 → H5 r = some (.lst (N.map V.str)) → H5 p = some (.lst ((W ++ (if "-" ++ n ∈ L then ["-" ++ n] else [])).map V.str)) → D.nx [some (V.ref a), some (.ref p), some (.str n), none] H5) →
          tIfS (tTest (tOp (rIn K false) (tOp (fun x y H Q => ∃ i j, x = V.str i ∧ y = V.str j ∧ i.length + j.length ≤ sizeLine ∧ Q (V.str (i ++ j)) H) (tC (.str "-")) (tVar 2)) (tVar 0))) (tDrop (tBM K "list" rAppend (tVar 1) (tCons (tOp (fun x y H Q => ∃ i j, x = V.str i ∧ y = V.str j ∧ i.length + j.length ≤ sizeLine ∧ Q (V.str (i ++ j)) H) (tC (.str "-")) (tVar 2)) tNil))) tNext D [some (V.ref a), some (.ref p), some (.str n), none] H4 := fun H4 W hW e4 h4 hp4 D k => by
        refine s_when (et_test (ev_inStr (minus rfl) (ev_var rfl) (e4 _ _ ha))) (fun c H5 e5 => ?_) (fun c H5 e5 => ?_)
        · have c2 : "-" ++ n ∈ L := by simpa using c
          refine s_app (K := K) (e5 _ _ hp4) (ev_var rfl) (minus rfl) (by rw [List.length_map]; omega) fun H6 e6 => k _ (Ex.mut ((e4.trans e5).trans e6) np) ?_ ?_
          · rw [upd_ne rp]; exact e6 _ _ (e5 _ _ h4)
          · rw [upd_same, if_pos c2, List.map_append] <;> rfl
        · have c2 : "-" ++ n ∉ L := by simpa using c
          refine k _ (e4.trans e5) (e5 _ _ h4) ?_
          rw [if_neg c2, List.append_nil]; exact e5 _ _ hp4
      refine q_when (et_test (ev_inStr (ev_var rfl) (ev_var rfl) ha3)) (fun c H4 e4 => ?_) (fun c H4 e4 => ?_)
      · have c2 : n ∈ L := by simpa using c
        refine s_app (K := K) (e4 _ _ hp3) (ev_var rfl) (ev_var rfl) (by rw [List.length_map]; omega) fun H5 e5 => ?_
        refine second _ (due L (N.take i) ++ [n]) (by rw [List.length_append]; show _ + 1 ≤ _; omega) (Ex.mut ((e3.trans e4).trans e5) np) (by rw [upd_ne rp]; exact e5 _ _ (e4 _ _ hr3)) (by rw [upd_same, List.map_append] <;> rfl) _ fun H6 e6 hr6 hp6 => ⟨_, rfl, e6, hr6, ?_⟩
        rw [hp6, due_step hn, if_pos c2]
      · have c2 : n ∉ L := by simpa using c
        refine second _ (due L (N.take i)) (by omega) (e3.trans e4) (e4 _ _ hr3) (e4 _ _ hp3) _ fun H6 e6 hr6 hp6 => ⟨_, rfl, e6, hr6, ?_⟩
        rw [hp6, due_step hn, if_neg c2, List.append_nil]
    · rintro σ H3 ⟨v2, rfl, e3, hr3, hp3⟩
      rw [List.length_map, List.take_length] at hp3
      exact ⟨_, rfl, q N od p H3 np e3 hp3⟩
end
theorem name_dash {z : Str} (h : isName z = true) : dash z = false := by
  obtain ⟨_, _, hd, _⟩ := name_len h
  unfold dash dashL
  cases e : z.cps.toList with
  | nil => rfl
  | cons c r =>
    rw [e] at hd
    have z1 : ltr c = true := hd
    cases q : ((c :: r).head? == some 45) with
    | false => rfl
    | true =>
      have e2 : c = 45 := by simpa using q
      rw [e2] at z1
      exact absurd z1 (by decide)
theorem name_lit {z : Str} (h : isName z = true) : isLit z = true := by unfold isLit; rw [bare_no (name_dash h)]; exact h
theorem minus_codes (z : Str) : ("-" ++ z).cps.toList = 45 :: z.cps.toList := by rw [app_codes]; rfl
theorem bare_minus (z : Str) : bare ("-" ++ z) = z := by
  have hd : dash ("-" ++ z) = true := by unfold dash; rw [minus_codes]; rfl
  unfold bare
  rw [if_pos hd, minus_codes]
  rfl
theorem minus_lit {z : Str} (h : isName z = true) : isLit ("-" ++ z) = true := by unfold isLit; rw [bare_minus]; exact h
theorem lit_form {z : Str} : z = bare z ∨ z = "-" ++ bare z := by
  cases h : dash z with
  | false => exact .inl (bare_no h).symm
  | true =>
    refine .inr (str_eq ?_)
    rw [minus_codes]
    unfold bare
    rw [if_pos h]
    show z.cps.toList = 45 :: z.cps.toList.drop 1
    unfold dash dashL at h
    cases e : z.cps.toList with
    | nil => rw [e] at h; cases h
    | cons c r =>
      rw [e] at h
      have e2 : c = 45 := by simpa using h
      rw [e2]
      rfl
theorem due_mem {L N : List Str} (od : Ord (L.map bare) N) (z : Str) : z ∈ due L N ↔ z ∈ L := by
  unfold due pick
  rw [List.mem_flatMap]
  constructor
  · rintro ⟨n, _, h⟩
    exact of_decide_eq_true (List.mem_filter.mp h).2
  · intro h
    refine ⟨bare z, (od.mem _).mpr (List.mem_map.mpr ⟨z, h, rfl⟩), List.mem_filter.mpr ⟨?_, decide_eq_true h⟩⟩
    rcases lit_form (z := z) with e | e
    · rw [← e]; exact List.mem_cons_self
    · exact List.mem_cons_of_mem _ (List.mem_singleton.mpr e)
/-! ### Clause.__init__ -/
/-- the name n stands in L in both signs -/
def bothIn (L : List Str) (n : Str) : Bool := decide (n ∈ L) && decide ("-" ++ n ∈ L)
theorem bare_pick {L : List Str} {n z : Str} (hn : dash n = false) (h : z ∈ pick L n) : bare z = n ∧ z ∈ L := by
  obtain ⟨h1, h2⟩ := List.mem_filter.mp h
  refine ⟨?_, of_decide_eq_true h2⟩
  rcases List.mem_cons.mp h1 with e | e
  · rw [e]; exact bare_no hn
  · rw [List.mem_singleton.mp e]; exact bare_minus n
/-- the first name in both signs, found among the literals -/
theorem find_both {L : List Str} : ∀ {N : List Str}, (∀ n ∈ N, dash n = false) → (due L N).find? (fun z => bothIn L (bare z)) = N.find? (bothIn L)
  | [], _ => rfl
  | n :: r, h => by
    have ih := find_both (L := L) (N := r) fun m hm => h m (List.mem_cons_of_mem _ hm)
    have hd := h n List.mem_cons_self
    show ((n :: r).flatMap (pick L)).find? _ = _
    rw [List.flatMap_cons, List.find?_append, List.find?_cons]
    cases b : bothIn L n with
    | true =>
      have hn : n ∈ L := by unfold bothIn at b; simp at b; exact b.1
      have e : (pick L n).find? (fun z => bothIn L (bare z)) = some n := by
        unfold pick
        rw [List.filter_cons, if_pos (decide_eq_true hn), List.find?_cons, bare_no hd, b]
      rw [e]
      rfl
    | false =>
      have e : (pick L n).find? (fun z => bothIn L (bare z)) = none := List.find?_eq_none.mpr fun z hz => by
        rw [(bare_pick hd hz).1, b]; decide
      rw [e]
      exact ih
theorem flip_in {L : List Str} {z : Str} (hz : z ∈ L) (hd : dash (bare z) = false) : decide (flip z ∈ L) = bothIn L (bare z) := by
  unfold bothIn
  cases h : dash z with
  | false =>
    rw [flip_no h]
    have e := bare_no h
    rw [e]
    simp [hz]
  | true =>
    rw [flip_dash h]
    have e : "-" ++ bare z = z := by
      rcases lit_form (z := z) with q | q
      · rw [← q, h] at hd; cases hd
      · exact q.symm
    rw [e]
    simp [hz]
/-- Clause.__init__(self, *literals) -/
def spCl (C CB CS CT : Addr) : Sp := fun vs H Q E => ∃ (x dx t : Addr) (L : List Str), vs = [.ref x, .ref t] ∧ H x = some (.ins C dx []) ∧ H t = some (.tup (L.map V.str)) ∧ L.length ≤ 90 ∧ (∀ z ∈ L, Txt8 260 z) ∧
  (∀ pre z post, L = pre ++ z :: post → (∀ y ∈ pre, isLit y = true) → isLit z = false → ∀ H' d, Evl.Ex H H' → H' d = some (.xd [("text", .str z)]) → E (.ref CB) (some d) H') ∧
  ((∀ z ∈ L, isLit z = true) → ∀ N, Ord (L.map bare) N →
    (∀ n, N.find? (bothIn L) = some n → ∀ H' d, Evl.Ex H H' → H' d = some (.xd [("name", .str n)]) → E (.ref CS) (some d) H') ∧
    (N.find? (bothIn L) = none → 6 < (due L N).length → ∀ H' d, Evl.Ex H H' → H' d = some (.xd [("limit", .int 6)]) → E (.ref CT) (some d) H') ∧
    (N.find? (bothIn L) = none → (due L N).length ≤ 6 → ∀ H' p, (∀ c o, c ≠ x → H c = some o → H' c = some o) → H p = none → H' x = some (.ins C dx [("literals", .ref p)]) → H' p = some (.tup ((due L N).map V.str)) → Q .non H'))
theorem lit_bare {z : Str} (h : isLit z = true) : isName (bare z) = true := h
theorem find_cong {f g : Str → Bool} : ∀ {D : List Str}, (∀ z ∈ D, f z = g z) → D.find? f = D.find? g
  | [], _ => rfl
  | z :: r, h => by
    rw [List.find?_cons, List.find?_cons, h z List.mem_cons_self, find_cong fun y hy => h y (List.mem_cons_of_mem _ hy)]
/-- check_signs(ordered) -/
def spSigns (CS : Addr) : Sp := fun vs H Q E => ∃ (b : Addr) (D : List Str), vs = [.ref b] ∧ H b = some (.lst (D.map V.str)) ∧ (∀ z ∈ D, isLit z = true ∧ z.cps.size ≤ 260 ∧ ∀ c ∈ z.cps.toList, c < 128) ∧
  (∀ z, D.find? (fun z => decide (flip z ∈ D)) = some z → ∀ H' d, Evl.Ex H H' → H' d = some (.xd [("name", .str (bare z))]) → E (.ref CS) (some d) H') ∧
  (D.find? (fun z => decide (flip z ∈ D)) = none → ∀ H', Evl.Ex H H' → Q .non H')
theorem pick_str {D : List Str} {i : Nat} {y : V} (hi : (D.map V.str)[i]? = some y) : ∃ z, D[i]? = some z ∧ V.str z = y := by
  rw [List.getElem?_map] at hi
  cases e : D[i]? with
  | none => rw [e] at hi; cases hi
  | some z => rw [e] at hi; exact ⟨z, rfl, Option.some.inj hi⟩
/-- the first one that meets a test, when all before it do not -/
theorem find_at1 {D : List Str} {f : Str → Bool} {i : Nat} {z : Str} (hz : D[i]? = some z) (no : ∀ y ∈ D.take i, f y = false) (yes : f z = true) : D.find? f = some z := by
  have lt := (List.getElem?_eq_some_iff.mp hz).1
  have q := (List.getElem?_eq_some_iff.mp hz).2
  have z2 : D.drop i = z :: D.drop (i + 1) := by rw [List.drop_eq_getElem_cons lt, q]
  have e0 : D = D.take i ++ z :: D.drop (i + 1) := by rw [← z2, List.take_append_drop]
  rw [e0, List.find?_append, List.find?_eq_none.mpr (fun y hy => by rw [no y hy]; decide), List.find?_cons, yes]
  rfl
open Evl in
theorem ok_check_signs (T : Txt P K mg) : FnOk P w K mg base (L2N.CX P w) 7 T.f_check_signs T.d_check_signs ["ordered"] (spSigns T.C_BothSigns) := by
  refine T.F_check_signs.okN sc_check_signs (fun vs H Q E h => ?_) (fun cdv A outer s H vs Q E hr h => ?_)
  · obtain ⟨b, D, rfl, _⟩ := h
    rfl
  · obtain ⟨b, D, rfl, hb, lits, bad, good⟩ := h
    refine ⟨_, (pss_one (ps_for PassesOwn.leaving rfl (pi_list (pv 0)) (pg_name (i := 1) sc_check_signs.nd rfl (.inl rfl)) (pss_one (ps_if (pt_cmpR op_in_seq (pe_call (ok_negated T) (hr.mono (by decide)) rfl T.g_negated T.F_negated.kp T.b_negated .nil (L2N.passes_call (L2N.takes_of rfl rfl rfl rfl) (fun _ _ _ _ h => h)) (pa_cons (pv 1) pa_nil)) (pv 0) (by rfl))
      (pss_one (L2N.ps_raise rfl (L2N.takes_of rfl rfl rfl rfl) (pmk1 T.E_BothSigns rfl fld_name T.o_BothSigns hr (pa_cons (pe_call (ok_name_of T) (hr.mono (by decide)) rfl T.g_name_of T.F_name_of.kp T.b_name_of .nil (L2N.passes_call (L2N.takes_of rfl rfl rfl rfl) (fun _ _ _ _ h => h)) (pa_cons (pv 1) pa_nil)) pa_nil) rfl (by decide)))) pss_nil)))), ?_⟩
    refine ⟨_, rfl, b, rfl, ⟨_, sq_of hb⟩, for_list (K := K) (xs := D.map V.str) (fun i σ H' => ∃ v1 : Option V, σ = [some (V.ref b), v1] ∧ Ex H H' ∧ ∀ z ∈ D.take i, decide (flip z ∈ D) = false)
      ⟨_, rfl, Ex.refl _, fun z hz => by simp at hz⟩ (fun i σ H' _ ⟨_, _, e, _⟩ => sq_of (e _ _ hb)) ?_ ?_⟩
    · rintro i y σ H2 hi ⟨v1, rfl, e2, no⟩
      obtain ⟨z, hz, rfl⟩ := pick_str hi
      have zD : z ∈ D := List.mem_of_getElem? hz
      obtain ⟨zl, zs, zc⟩ := lits z zD
      refine ⟨_, rfl, z, rfl, zs, zc, fun _ H3 e3 => ⟨_, rfl, (rv_isL (K := K) (sq_of (e3 _ _ (e2 _ _ hb))) rfl (flat_str _)) H3 (Ex.refl _) _ fun H4 e4 => ?_⟩, fun no => absurd zl (by rw [no]; decide)⟩
      rw [in_map]
      cases bz : decide (flip z ∈ D) with
      | true =>
        refine ⟨_, rfl, iteT ?_⟩
        refine ⟨_, rfl, z, rfl, zs, zc, fun _ H5 e5 => ⟨_, rfl, fun u hu => ?_, fun d nd => ?_⟩, fun no => absurd zl (by rw [no]; decide)⟩
        · obtain ⟨tk, rfl⟩ := hu
          refine msg_sc fld_name (by decide) ?_
          have h8 := (name_txt (lit_bare zl)).1
          have e : (bare z).length = (bare z).cps.size := rfl
          omega
        · exact bad z (find_at1 hz no bz) _ d ((((e2.trans e3).trans e4).trans e5).trans (Ex.new nd)) upd_same
      | false =>
        refine ⟨_, rfl, iteF ?_⟩
        refine ⟨_, rfl, (e2.trans e3).trans e4, fun y hy => ?_⟩
        rw [List.take_add_one, hz] at hy
        rcases List.mem_append.mp hy with h | h
        · exact no y h
        · have e : y = z := by simpa using h
          rw [e]; exact bz
    · rintro σ H2 ⟨v1, rfl, e2, no⟩
      rw [List.length_map, List.take_length] at no
      exact good (List.find?_eq_none.mpr fun z hz => by rw [no z hz]; decide) H2 e2
open Evl in
theorem okR_Clause_init (T : Txt P K mg) : FnR P w K mg base (L2N.CX P w) 8 T.f_Clause_init (fun vs H Q E => ∃ ws rest, vs = ws ++ rest ∧ ws.length = ["self"].length ∧ rest.length ≤ sizeLine ∧ ∀ p, H p = none → spCl T.C_Clause T.C_BadLiteral T.C_BothSigns T.C_TooMany (ws ++ [V.ref p]) (upd H p (.tup rest)) Q E) := by
  refine T.F_Clause_init.okStar (ps := ["self"]) sc_Clause_init (fun kV doc pm an cdv ct => StX.bind_star1 (B := fun us => bindArgs (PySem.W.fnOf "__init__" "Clause.__init__" (defArgs s_Clause_init) (defBody s_Clause_init) (defScope s_Clause_init) .none kV doc pm an cdv ct) ⟨us, []⟩) (p1 := "self") (pv := "literals") (fun a => rfl) (fun a r rs => rfl)) (fun cdv A outer s H vs Q E hr h => ?_)
  obtain ⟨x, dx, t, L, rfl, hx, ht, few, txt, bad, good⟩ := h
  obtain ⟨u6, cv6⟩ := T.V_Clause_LIMIT
  refine ⟨_, (pss_cons (ps_set (i := 2) sc_Clause_init.nd rfl (.inl rfl) (pe_call (okT_in_order T) (hr.mono (by decide)) rfl T.g_in_order T.F_in_order.kp T.b_in_order .nil (L2N.passes_call (L2N.takes_of rfl rfl rfl rfl) (fun _ _ _ _ h => h)) (pa_cons (pv 1) pa_nil)))
    (pss_cons (ps_expr (pe_call (ok_check_signs T) (hr.mono (by decide)) rfl T.g_check_signs T.F_check_signs.kp T.b_check_signs .nil (L2N.passes_call (L2N.takes_of rfl rfl rfl rfl) (fun _ _ _ _ h => h)) (pa_cons (pv 2) pa_nil)))
    (pss_cons (ps_if (pt_cmpR op_gt (pe_callB call_len_seq (by rfl) T.n_len PySem.boot_len (pa_cons (pv 2) pa_nil)) (ClX.pe_cval (pe_glob (v := .ref T.C_Clause) rfl T.g_Clause rfl)) (nomark _))
      (pss_one (L2N.ps_raise rfl (L2N.takes_of rfl rfl rfl rfl) (pmk1 T.E_TooMany rfl fld_limit T.o_TooMany hr (pa_cons (ClX.pe_cval (pe_glob (v := .ref T.C_Clause) rfl T.g_Clause rfl)) pa_nil) rfl (by decide)))) pss_nil)
    (pss_one (ps_fld (pv 0) (pe_callTy call_tuple_of (by rfl) T.n_tuple (by decide +kernel) (pa_cons (pv 2) pa_nil)) rfl))))), ?_⟩
  have short : ∀ z ∈ L, z.cps.size ≤ 260 ∧ ∀ c ∈ z.cps.toList, c < 128 := fun z hz => ⟨Nat.le_trans (txt z hz).1 (by decide), (txt z hz).2⟩
  refine ⟨_, rfl, t, L, rfl, ht, by omega, short, fun lits N od b H1 nb e1 hb => ?_, bad⟩
  obtain ⟨sign, many, fin⟩ := good lits N od
  have ndash : ∀ n ∈ N, dash n = false := fun n hn => by
    obtain ⟨z, hz, rfl⟩ := List.mem_map.mp ((od.mem n).mp hn)
    exact name_dash (lit_bare (lits z hz))
  have dmem := due_mem od
  have found : (due L N).find? (fun z => decide (flip z ∈ due L N)) = N.find? (bothIn L) := by
    rw [← find_both (L := L) ndash]
    refine find_cong fun z hz => ?_
    have zL := (dmem z).mp hz
    rw [← flip_in zL (name_dash (lit_bare (lits z zL)))]
    exact decide_eq_decide.mpr (dmem _)
  refine ⟨_, rfl, b, due L N, rfl, hb, fun z hz => ⟨lits z ((dmem z).mp hz), short z ((dmem z).mp hz)⟩, fun z fz H' d e hd => ?_, fun none H2 e2 => ?_⟩
  · rw [found] at fz
    have zn : z ∈ N := List.mem_of_find?_eq_some fz
    rw [bare_no (ndash z zn)] at hd
    exact sign z fz H' d (e1.trans e) hd
  · rw [found] at none
    have hx2 := e2 _ _ (e1 _ _ hx)
    have hb2 := e2 _ _ hb
    refine ⟨_, rfl, b, _, rfl, .inl (SqL.of hb2), T.C_Clause, .type "type", .int 6, u6, rfl, T.R_Clause, cv6, _, _, rfl, rfl, _, rfl, ite2 (fun big => ?_) (fun big => ?_)⟩
    · have big2 : 6 < (due L N).length := by
        have z := of_decide_eq_true big
        rw [List.length_map] at z
        omega
      refine ⟨T.C_Clause, .type "type", .int 6, u6, rfl, T.R_Clause, cv6, _, rfl, fun u hu => ?_, fun d nd => many none big2 _ d ((e1.trans e2).trans (Ex.new nd)) upd_same⟩
      obtain ⟨tk, rfl⟩ := hu
      exact msg_ci fld_limit (by decide) (by decide) (by decide)
    · have big2 : (due L N).length ≤ 6 := Nat.le_of_not_lt fun h => big (decide_eq_true (by rw [List.length_map]; omega))
      refine ⟨_, rfl, b, _, rfl, .inl ⟨SqL.of hb2, fun p np => ⟨.ref x, rfl, x, _, dx, _, rfl, (by rw [upd_ne (ne_of_none hx2 np)]; exact hx2), T.cl_Clause, T.na_Clause_literals, (by show 0 < 1000; decide), ?_⟩⟩⟩
      have xp : p ≠ x := fun e => by rw [e, hx2] at np; cases np
      refine fin none big2 _ p (fun c o nc hc => ?_) (fresh_back (e1.trans e2) np) upd_same (by rw [upd_ne xp, upd_same])
      rw [upd_ne nc, upd_ne (ne_of_none (e2 _ _ (e1 _ _ hc)) np)]
      exact e2 _ _ (e1 _ _ hc)
/-! ### Clause(..) of 0 to 8 strings -/
section
open Evl
theorem pe_makeR0 {X : Cx} {CX : CXT} {k : Nat} {f C : Addr} {sp : Sp} {E : XK} {x : Str} {p pos : Pos} (M : Mk X.K C f) (F : FnR X.prog X.w X.K X.mg X.base CX k f sp) (hr : Room (k + 1) X.A) (hg : Gl X x) (hm : X.mg x = some (.ref C)) (hx : Passes CX X E) (hdb : (x == ("__debug__" : Str)) = false := by decide) :
    PE X (.Call (.Name x p) [] [] pos) (StX.tMakeR C sp E tNil) := by
  refine ⟨fun pins s σ H Q I h => ?_⟩
  refine wpAny_Call_Name_kw (ld_glob I hg hm (PySem.W.callWith_K0 I.kIn M.kp ?_) hdb)
  exact StX.run_makeR (us := []) M F hr hx I .nil h
theorem mkC (T : Txt P K mg) : Mk K T.C_Clause T.f_Clause_init := ⟨T.mi_Clause, T.m_Clause_init, T.i_Clause_init, T.kc_Clause⟩
structure MkL (C CB CS CT : Addr) (L : List Str) (H : Hp) (Q : VK) (E : XK) : Prop where
  bad : ∀ pre z post, L = pre ++ z :: post → (∀ y ∈ pre, isLit y = true) → isLit z = false → ∀ H' d, Ex H H' → H' d = some (.xd [("text", .str z)]) → E (.ref CB) (some d) H'
  sign : (∀ z ∈ L, isLit z = true) → ∀ N, Ord (L.map bare) N → ∀ n, N.find? (bothIn L) = some n → ∀ H' d, Ex H H' → H' d = some (.xd [("name", .str n)]) → E (.ref CS) (some d) H'
  many : (∀ z ∈ L, isLit z = true) → ∀ N, Ord (L.map bare) N → N.find? (bothIn L) = none → 6 < (due L N).length → ∀ H' d, Ex H H' → H' d = some (.xd [("limit", .int 6)]) → E (.ref CT) (some d) H'
  good : (∀ z ∈ L, isLit z = true) → ∀ N, Ord (L.map bare) N → N.find? (bothIn L) = none → (due L N).length ≤ 6 → ∀ H' x dx p, Ex H H' → H' x = some (.ins C dx [("literals", .ref p)]) → H' p = some (.tup ((due L N).map V.str)) → Q (.ref x) H'
theorem MkL.mono {C CB CS CT : Addr} {L : List Str} {H H1 : Hp} {Q : VK} {E : XK} (m : MkL C CB CS CT L H Q E) (e : Ex H H1) : MkL C CB CS CT L H1 Q E :=
  ⟨fun a b c d f g H' x y => m.bad a b c d f g H' x (e.trans y), fun a N b n c H' d x => m.sign a N b n c H' d (e.trans x), fun a N b c f H' d x => m.many a N b c f H' d (e.trans x), fun a N b c f H' x dx p y => m.good a N b c f H' x dx p (e.trans y)⟩
def spInitR (C CB CS CT : Addr) : Sp := fun vs H Q E => ∃ ws rest, vs = ws ++ rest ∧ ws.length = ["self"].length ∧ rest.length ≤ sizeLine ∧ ∀ p, H p = none → spCl C CB CS CT (ws ++ [V.ref p]) (upd H p (.tup rest)) Q E
theorem mk_args {C CB CS CT : Addr} {L : List Str} {σ : L2.St} {H : Hp} {Q : VK} {E : XK} {ta : TA} (few : L.length ≤ 90) (txt : ∀ z ∈ L, Txt8 260 z) (hA : EvA ta σ H (L.map V.str)) (go : MkL C CB CS CT L H Q E) : StX.tMakeR C (spInitR C CB CS CT) E ta σ H Q :=
  hA H (Ex.refl H) _ fun H1 e1 x dx hx hd ne => ⟨[.ref x], L.map V.str, rfl, rfl, by rw [List.length_map]; exact sz_of (by omega), fun p np => by
    have m := go.mono e1
    have px : p ≠ x := fun e => by rw [e, upd_same] at np; cases np
    have pd : p ≠ dx := fun e => by rw [e, upd_ne ne, upd_same] at np; cases np
    have np1 : H1 p = none := by rw [upd_ne px, upd_ne pd] at np; exact np
    have e0 : Ex H1 (upd (upd (upd H1 dx (.own x)) x (.ins C dx [])) p (.tup (L.map V.str))) := fun c o hc => by rw [upd_ne (ne_of_none hc np1), upd_ne (ne_of_none hc hx), upd_ne (ne_of_none hc hd)]; exact hc
    refine ⟨x, dx, p, L, rfl, by rw [upd_ne px.symm, upd_same], upd_same, few, txt, fun pre z post a b c H' d e => m.bad pre z post a b c H' d (e0.trans e), fun lits N od => ⟨fun n f H' d e => m.sign lits N od n f H' d (e0.trans e), fun f l H' d e => m.many lits N od f l H' d (e0.trans e), fun f l H' q k nq hx' hq => ⟨rfl, m.good lits N od f l H' x dx q (fun c o hc => k c o (ne_of_none hc hx) (e0 c o hc)) hx' hq⟩⟩⟩⟩
end
section
open Evl
theorem given_true (n : Nat) : given n (fun _ => true) (fun _ => V.bl true) = (List.replicate n true).map V.bl := by
  have e : List.filter (fun _ => true) (List.range n) = List.range n := List.filter_eq_self.mpr fun _ _ => rfl
  unfold given
  rw [e]
  simp [List.map_const']
theorem given_eq {te : TE} {σ : L2.St} {H : Hp} {n : Nat} (h : EvL te σ H (given n (fun _ => true) (fun _ => V.bl true))) : EvL te σ H ((List.replicate n true).map V.bl) := by
  rw [given_true] at h
  exact h
end
section
open Evl
theorem FnOk_or {CX : CXT} {k : Nat} {f : Addr} {fd : FuncData} {ps : List Str} {sp1 sp2 : Sp} (F1 : FnOk P w K mg base CX k f fd ps sp1) (F2 : FnOk P w K mg base CX k f fd ps sp2) : FnOk P w K mg base CX k f fd ps (fun vs H Q E => sp1 vs H Q E ∨ sp2 vs H Q E) :=
  ⟨fun vs H Q E h => h.elim (F1.len vs H Q E) (F2.len vs H Q E), fun A outer s H args us vs Q E hr e0 b v h => h.elim (F1.run A outer s H args us vs Q E hr e0 b v) (F2.run A outer s H args us vs Q E hr e0 b v)⟩
/-- _law_same(one, other) of two tuples, each item the same as the other's by spR -/
def spSameG (spR : Sp) : Sp := fun vs H Q _ => ∃ (a b : Addr) (xs ys : List V), vs = [.ref a, .ref b] ∧ H a = some (.tup xs) ∧ H b = some (.tup ys) ∧ xs.length = ys.length ∧ xs.length ≤ 100 ∧ (∀ (i : Nat) (x y : V), xs[i]? = some x → ys[i]? = some y → SpV spR [x, y] H (.bl true)) ∧ ∀ H', Ex H H' → Q (.bl true) H'
theorem ev_isU {σ : L2.St} {H : Hp} {ta : TE} {a : Addr} {xs : List V} {c : String} {b : Bool} (h : Ev ta σ H (.ref a)) (ha : H a = some (.tup xs)) (hk : kitB "tuple" c = some b) : Ev (tCB (rIsi K) (tCons ta (tCons (tC (.ty c)) tNil))) σ H (.bl b) :=
  ev_cb (ea_cons h (ea_cons ev_c ea_nil)) fun H1 e Q q => ⟨.ref a, .ty c, .type "tuple", .type c, b, rfl, .ty c, .base (.tup (e _ _ ha)), kit_ty hk, q H1 (Ex.refl H1)⟩
theorem okG__law_same (T : Txt P K mg) {kR : Nat} {spR : Sp} (FR : FnOk P w K mg base CX0 kR T.f__law_same T.d__law_same ["_law_one", "_law_other"] spR) : FnOk P w K mg base CX0 (kR + 1) T.f__law_same T.d__law_same ["_law_one", "_law_other"] (spSameG spR) := by
  refine T.F__law_same.ok sc__law_same (fun vs H Q E h => ?_) (fun cdv A outer s H vs Q E hr h => ?_)
  · obtain ⟨a, b, xs, ys, rfl, _⟩ := h
    rfl
  · obtain ⟨a, b, xs, ys, rfl, ha, hb, ln, hl, each, k⟩ := h
    refine ⟨_, (pss_cons (ps_if (PW.pt (pw_or (pt_val (pe_callB call_isi (by rfl) T.n_isinstance (by decide +kernel) (pa_cons (pv 0) (pa_cons (pe_bltn (v := .ty "bool") (u := .type "bool") (by rfl) T.n_bool (by decide +kernel) rfl) pa_nil)))) (pw_or1 (pt_val (pe_callB call_isi (by rfl) T.n_isinstance (by decide +kernel) (pa_cons (pv 1) (pa_cons (pe_bltn (v := .ty "bool") (u := .type "bool") (by rfl) T.n_bool (by decide +kernel) rfl) pa_nil))))))) (pss_one (ps_ret (pe_and (pe_callB call_isi (by rfl) T.n_isinstance (by decide +kernel) (pa_cons (pv 0) (pa_cons (pe_bltn (v := .ty "bool") (u := .type "bool") (by rfl) T.n_bool (by decide +kernel) rfl) pa_nil))) (pe_and (pe_callB call_isi (by rfl) T.n_isinstance (by decide +kernel) (pa_cons (pv 1) (pa_cons (pe_bltn (v := .ty "bool") (u := .type "bool") (by rfl) T.n_bool (by decide +kernel) rfl) pa_nil))) (pe_one (pe_cmpR op_eq (pv 0) (pv 1) (nomark _))))))) pss_nil)
      (pss_cons (ps_if (PW.pt (pw_or (pt_val (pe_callB call_isi (by rfl) T.n_isinstance (by decide +kernel) (pa_cons (pv 0) (pa_cons (pe_bltn (v := .ty "int") (u := .type "int") (by rfl) T.n_int (by decide +kernel) rfl) pa_nil)))) (pw_or1 (pt_val (pe_callB call_isi (by rfl) T.n_isinstance (by decide +kernel) (pa_cons (pv 1) (pa_cons (pe_bltn (v := .ty "int") (u := .type "int") (by rfl) T.n_int (by decide +kernel) rfl) pa_nil))))))) (pss_one (ps_ret (pe_and (pe_callB call_isi (by rfl) T.n_isinstance (by decide +kernel) (pa_cons (pv 0) (pa_cons (pe_bltn (v := .ty "int") (u := .type "int") (by rfl) T.n_int (by decide +kernel) rfl) pa_nil))) (pe_and (pe_callB call_isi (by rfl) T.n_isinstance (by decide +kernel) (pa_cons (pv 1) (pa_cons (pe_bltn (v := .ty "int") (u := .type "int") (by rfl) T.n_int (by decide +kernel) rfl) pa_nil))) (pe_one (pe_cmpR op_eq (pv 0) (pv 1) (nomark _))))))) pss_nil)
      (pss_cons (ps_if (PW.pt (pw_or (pt_val (pe_callB call_isi (by rfl) T.n_isinstance (by decide +kernel) (pa_cons (pv 0) (pa_cons (pe_bltn (v := .ty "str") (u := .type "str") (by rfl) T.n_str (by decide +kernel) rfl) pa_nil)))) (pw_or1 (pt_val (pe_callB call_isi (by rfl) T.n_isinstance (by decide +kernel) (pa_cons (pv 1) (pa_cons (pe_bltn (v := .ty "str") (u := .type "str") (by rfl) T.n_str (by decide +kernel) rfl) pa_nil))))))) (pss_one (ps_ret (pe_and (pe_callB call_isi (by rfl) T.n_isinstance (by decide +kernel) (pa_cons (pv 0) (pa_cons (pe_bltn (v := .ty "str") (u := .type "str") (by rfl) T.n_str (by decide +kernel) rfl) pa_nil))) (pe_and (pe_callB call_isi (by rfl) T.n_isinstance (by decide +kernel) (pa_cons (pv 1) (pa_cons (pe_bltn (v := .ty "str") (u := .type "str") (by rfl) T.n_str (by decide +kernel) rfl) pa_nil))) (pe_one (pe_cmpR op_eq (pv 0) (pv 1) (nomark _))))))) pss_nil)
      (pss_cons (ps_set (i := 2) sc__law_same.nd rfl (.inl rfl) (pe_and (pe_callB call_isi (by rfl) T.n_isinstance (by decide +kernel) (pa_cons (pv 0) (pa_cons (pe_bltn (v := .ty "list") (u := .type "list") (by rfl) T.n_list (by decide +kernel) rfl) pa_nil))) (pe_one (pe_callB call_isi (by rfl) T.n_isinstance (by decide +kernel) (pa_cons (pv 1) (pa_cons (pe_bltn (v := .ty "list") (u := .type "list") (by rfl) T.n_list (by decide +kernel) rfl) pa_nil))))))
      (pss_cons (ps_if (PW.pt (pw_and (pt_not (pt_val (pv 2))) (pw_and1 (pt_not (PW.pt (pw_and (pt_val (pe_callB call_isi (by rfl) T.n_isinstance (by decide +kernel) (pa_cons (pv 0) (pa_cons (pe_bltn (v := .ty "tuple") (u := .type "tuple") (by rfl) T.n_tuple (by decide +kernel) rfl) pa_nil)))) (pw_and1 (pt_val (pe_callB call_isi (by rfl) T.n_isinstance (by decide +kernel) (pa_cons (pv 1) (pa_cons (pe_bltn (v := .ty "tuple") (u := .type "tuple") (by rfl) T.n_tuple (by decide +kernel) rfl) pa_nil))))))))))) (pss_one (ps_ret (pe_and (pe_cmpR op_isN (pv 0) pe_non (nomark _)) (pe_one (pe_cmpR op_isN (pv 1) pe_non (nomark _)))))) pss_nil)
      (pss_one (ps_ret (pe_and (pe_cmpR op_eq (pe_callB call_len_seq (by rfl) T.n_len PySem.boot_len (pa_cons (pv 0) pa_nil)) (pe_callB call_len_seq (by rfl) T.n_len PySem.boot_len (pa_cons (pv 1) pa_nil)) (nomark _)) (pe_one (pe_callB (cr_all rfl) (by rfl) T.n_all (by decide +kernel) (pa_cons (pe_lc (own := [("_law_k", 3)]) (g := gName 3) (by rfl) sc__law_same.nd (pi_range1 rfl T.n_range (pa_cons (pe_callB call_len_seq (by rfl) T.n_len PySem.boot_len (pa_cons (pv 0) pa_nil)) pa_nil)) (blkOk_by (own := [("_law_k", 3)]) (N := N__law_same) (sc := defScope s__law_same) (by decide +kernel)) (fun _ _ _ _ _ => pg_name (i := 3) sc__law_same.nd rfl (Or.inl rfl)) (fun _ _ _ _ _ => pts_nil) (fun _ _ _ _ _ => (pe_call FR hr rfl T.g__law_same T.F__law_same.kp T.b__law_same .nil pass0 (pa_cons (pe_ix (r := rIxT K) ix_tup (pv 0) (pv 3) (fun _ _ => rfl)) (pa_cons (pe_ix (r := rIxT K) ix_tup (pv 1) (pv 3) (fun _ _ => rfl)) pa_nil))))) pa_nil))))))))))), ?_⟩
    have kb : kitB "tuple" "bool" = some false := by decide +kernel
    have ki : kitB "tuple" "int" = some false := by decide +kernel
    have ks : kitB "tuple" "str" = some false := by decide +kernel
    have kl : kitB "tuple" "list" = some false := by decide +kernel
    have kt : kitB "tuple" "tuple" = some true := by decide +kernel
    refine q_when (b := false) (et_is (et_or (et_B (ev_isU (ev_var rfl) ha kb)) (fun _ => et_B (ev_isU (ev_var rfl) hb kb))) rfl) (fun z => by cases z) (fun _ H1 e1 => ?_)
    have ha := e1 _ _ ha
    have hb := e1 _ _ hb
    refine q_when (b := false) (et_is (et_or (et_B (ev_isU (ev_var rfl) ha ki)) (fun _ => et_B (ev_isU (ev_var rfl) hb ki))) rfl) (fun z => by cases z) (fun _ H2 e2 => ?_)
    have ha := e2 _ _ ha
    have hb := e2 _ _ hb
    refine q_when (b := false) (et_is (et_or (et_B (ev_isU (ev_var rfl) ha ks)) (fun _ => et_B (ev_isU (ev_var rfl) hb ks))) rfl) (fun z => by cases z) (fun _ H3 e3 => ?_)
    have ha := e3 _ _ ha
    have hb := e3 _ _ hb
    refine q_asg (v := .bl false) (ev_is (ev_andV (b := false) (ev_isU (ev_var rfl) ha kl) (fun z => by cases z)) rfl) (fun H4 e4 => ?_)
    have ha := e4 _ _ ha
    have hb := e4 _ _ hb
    refine q_when (b := false) (et_is (et_and (a := true) (b := false) (et_is (et_not (et_B (ev_var rfl))) rfl) (fun _ => et_is (et_not (et_and (et_B (ev_isU (ev_var rfl) ha kt)) (fun _ => et_B (ev_isU (ev_var rfl) hb kt)))) rfl)) rfl) (fun z => by cases z) (fun _ H5 e5 => ?_)
    have ha := e5 _ _ ha
    have hb := e5 _ _ hb
    have e05 := (((e1.trans e2).trans e3).trans e4).trans e5
    refine s_ret (v := .bl true) (ev_is (ev_andV (a := true) (b := true) (ev_is (ev_op (x := .int (xs.length : Int)) (y := .int (xs.length : Int)) (ev_cb (ea_cons (ev_var rfl) ea_nil) fun H7 e7 Q q => ?_) (ev_cb (ea_cons (ev_var rfl) ea_nil) fun H7 e7 Q q => ?_) (rv_eq rfl)) (by simp)) (fun _ => ?_)) rfl) (fun H6 e6 => k H6 (e05.trans e6))
    · exact ⟨a, _, rfl, .inr (Evl.st_of (e7 _ _ ha)), q H7 (Ex.refl H7)⟩
    · exact ⟨b, _, rfl, .inr (Evl.st_of (e7 _ _ hb)), (by rw [← ln]; exact q H7 (Ex.refl H7))⟩
    · refine ev_is (ev_all (bs := List.replicate xs.length true) (given_eq (el_lcR1 (n := (xs.length : Int)) (fun _ => true) (fun _ => V.bl true) (ea_cons (ev_cb (ea_cons (ev_var rfl) ea_nil) fun H7 e7 Q q => ⟨a, _, rfl, .inr (Evl.st_of (e7 _ _ ha)), q H7 (Ex.refl H7)⟩) ea_nil) ⟨by omega, by omega⟩ (fun _ => rfl) (fun i H4 _ _ H5 _ Q q => q H5 (Ex.refl H5)) (fun i H6 e hi _ => ?_)))) (by simp)
      have hi2 : i < xs.length := by omega
      have hx : xs[i]? = some xs[i] := List.getElem?_eq_getElem hi2
      have hy : ys[i]? = some (ys[i]'(by omega)) := List.getElem?_eq_getElem (by omega)
      exact ev_call (ea_cons (ev_op (ev_var rfl) (ev_var rfl) (rv_ixT (Evl.st_of (e _ _ ha)) (atI_nat (j := i) hx))) (ea_cons (ev_op (ev_var rfl) (ev_var rfl) (rv_ixT (Evl.st_of (e _ _ hb)) (atI_nat (j := i) hy))) ea_nil)) fun H7 e7 => each i _ _ hx hy H7 ((e05.trans e).trans e7)
/-- _law_same(one, other) of two lists, each item the same as the other's by spR -/
def spSameLG (spR : Sp) : Sp := fun vs H Q _ => ∃ (a b : Addr) (xs ys : List V), vs = [.ref a, .ref b] ∧ H a = some (.lst xs) ∧ H b = some (.lst ys) ∧ xs.length = ys.length ∧ xs.length ≤ 100 ∧ (∀ (i : Nat) (x y : V), xs[i]? = some x → ys[i]? = some y → SpV spR [x, y] H (.bl true)) ∧ ∀ H', Ex H H' → Q (.bl true) H'
theorem ev_isL {σ : L2.St} {H : Hp} {ta : TE} {a : Addr} {xs : List V} {c : String} {b : Bool} (h : Ev ta σ H (.ref a)) (ha : H a = some (.lst xs)) (hk : kitB "list" c = some b) : Ev (tCB (rIsi K) (tCons ta (tCons (tC (.ty c)) tNil))) σ H (.bl b) :=
  ev_cb (ea_cons h (ea_cons ev_c ea_nil)) fun H1 e Q q => ⟨.ref a, .ty c, .type "list", .type c, b, rfl, .ty c, .base (.lst (e _ _ ha)), kit_ty hk, q H1 (Ex.refl H1)⟩
theorem okLG__law_same (T : Txt P K mg) {kR : Nat} {spR : Sp} (FR : FnOk P w K mg base CX0 kR T.f__law_same T.d__law_same ["_law_one", "_law_other"] spR) : FnOk P w K mg base CX0 (kR + 1) T.f__law_same T.d__law_same ["_law_one", "_law_other"] (spSameLG spR) := by
  refine T.F__law_same.ok sc__law_same (fun vs H Q E h => ?_) (fun cdv A outer s H vs Q E hr h => ?_)
  · obtain ⟨a, b, xs, ys, rfl, _⟩ := h
    rfl
  · obtain ⟨a, b, xs, ys, rfl, ha, hb, ln, hl, each, k⟩ := h
    refine ⟨_, (pss_cons (ps_if (PW.pt (pw_or (pt_val (pe_callB call_isi (by rfl) T.n_isinstance (by decide +kernel) (pa_cons (pv 0) (pa_cons (pe_bltn (v := .ty "bool") (u := .type "bool") (by rfl) T.n_bool (by decide +kernel) rfl) pa_nil)))) (pw_or1 (pt_val (pe_callB call_isi (by rfl) T.n_isinstance (by decide +kernel) (pa_cons (pv 1) (pa_cons (pe_bltn (v := .ty "bool") (u := .type "bool") (by rfl) T.n_bool (by decide +kernel) rfl) pa_nil))))))) (pss_one (ps_ret (pe_and (pe_callB call_isi (by rfl) T.n_isinstance (by decide +kernel) (pa_cons (pv 0) (pa_cons (pe_bltn (v := .ty "bool") (u := .type "bool") (by rfl) T.n_bool (by decide +kernel) rfl) pa_nil))) (pe_and (pe_callB call_isi (by rfl) T.n_isinstance (by decide +kernel) (pa_cons (pv 1) (pa_cons (pe_bltn (v := .ty "bool") (u := .type "bool") (by rfl) T.n_bool (by decide +kernel) rfl) pa_nil))) (pe_one (pe_cmpR op_eq (pv 0) (pv 1) (nomark _))))))) pss_nil)
      (pss_cons (ps_if (PW.pt (pw_or (pt_val (pe_callB call_isi (by rfl) T.n_isinstance (by decide +kernel) (pa_cons (pv 0) (pa_cons (pe_bltn (v := .ty "int") (u := .type "int") (by rfl) T.n_int (by decide +kernel) rfl) pa_nil)))) (pw_or1 (pt_val (pe_callB call_isi (by rfl) T.n_isinstance (by decide +kernel) (pa_cons (pv 1) (pa_cons (pe_bltn (v := .ty "int") (u := .type "int") (by rfl) T.n_int (by decide +kernel) rfl) pa_nil))))))) (pss_one (ps_ret (pe_and (pe_callB call_isi (by rfl) T.n_isinstance (by decide +kernel) (pa_cons (pv 0) (pa_cons (pe_bltn (v := .ty "int") (u := .type "int") (by rfl) T.n_int (by decide +kernel) rfl) pa_nil))) (pe_and (pe_callB call_isi (by rfl) T.n_isinstance (by decide +kernel) (pa_cons (pv 1) (pa_cons (pe_bltn (v := .ty "int") (u := .type "int") (by rfl) T.n_int (by decide +kernel) rfl) pa_nil))) (pe_one (pe_cmpR op_eq (pv 0) (pv 1) (nomark _))))))) pss_nil)
      (pss_cons (ps_if (PW.pt (pw_or (pt_val (pe_callB call_isi (by rfl) T.n_isinstance (by decide +kernel) (pa_cons (pv 0) (pa_cons (pe_bltn (v := .ty "str") (u := .type "str") (by rfl) T.n_str (by decide +kernel) rfl) pa_nil)))) (pw_or1 (pt_val (pe_callB call_isi (by rfl) T.n_isinstance (by decide +kernel) (pa_cons (pv 1) (pa_cons (pe_bltn (v := .ty "str") (u := .type "str") (by rfl) T.n_str (by decide +kernel) rfl) pa_nil))))))) (pss_one (ps_ret (pe_and (pe_callB call_isi (by rfl) T.n_isinstance (by decide +kernel) (pa_cons (pv 0) (pa_cons (pe_bltn (v := .ty "str") (u := .type "str") (by rfl) T.n_str (by decide +kernel) rfl) pa_nil))) (pe_and (pe_callB call_isi (by rfl) T.n_isinstance (by decide +kernel) (pa_cons (pv 1) (pa_cons (pe_bltn (v := .ty "str") (u := .type "str") (by rfl) T.n_str (by decide +kernel) rfl) pa_nil))) (pe_one (pe_cmpR op_eq (pv 0) (pv 1) (nomark _))))))) pss_nil)
      (pss_cons (ps_set (i := 2) sc__law_same.nd rfl (.inl rfl) (pe_and (pe_callB call_isi (by rfl) T.n_isinstance (by decide +kernel) (pa_cons (pv 0) (pa_cons (pe_bltn (v := .ty "list") (u := .type "list") (by rfl) T.n_list (by decide +kernel) rfl) pa_nil))) (pe_one (pe_callB call_isi (by rfl) T.n_isinstance (by decide +kernel) (pa_cons (pv 1) (pa_cons (pe_bltn (v := .ty "list") (u := .type "list") (by rfl) T.n_list (by decide +kernel) rfl) pa_nil))))))
      (pss_cons (ps_if (PW.pt (pw_and (pt_not (pt_val (pv 2))) (pw_and1 (pt_not (PW.pt (pw_and (pt_val (pe_callB call_isi (by rfl) T.n_isinstance (by decide +kernel) (pa_cons (pv 0) (pa_cons (pe_bltn (v := .ty "tuple") (u := .type "tuple") (by rfl) T.n_tuple (by decide +kernel) rfl) pa_nil)))) (pw_and1 (pt_val (pe_callB call_isi (by rfl) T.n_isinstance (by decide +kernel) (pa_cons (pv 1) (pa_cons (pe_bltn (v := .ty "tuple") (u := .type "tuple") (by rfl) T.n_tuple (by decide +kernel) rfl) pa_nil))))))))))) (pss_one (ps_ret (pe_and (pe_cmpR op_isN (pv 0) pe_non (nomark _)) (pe_one (pe_cmpR op_isN (pv 1) pe_non (nomark _)))))) pss_nil)
      (pss_one (ps_ret (pe_and (pe_cmpR op_eq (pe_callB call_len_seq (by rfl) T.n_len PySem.boot_len (pa_cons (pv 0) pa_nil)) (pe_callB call_len_seq (by rfl) T.n_len PySem.boot_len (pa_cons (pv 1) pa_nil)) (nomark _)) (pe_one (pe_callB (cr_all rfl) (by rfl) T.n_all (by decide +kernel) (pa_cons (pe_lc (own := [("_law_k", 3)]) (g := gName 3) (by rfl) sc__law_same.nd (pi_range1 rfl T.n_range (pa_cons (pe_callB call_len_seq (by rfl) T.n_len PySem.boot_len (pa_cons (pv 0) pa_nil)) pa_nil)) (blkOk_by (own := [("_law_k", 3)]) (N := N__law_same) (sc := defScope s__law_same) (by decide +kernel)) (fun _ _ _ _ _ => pg_name (i := 3) sc__law_same.nd rfl (Or.inl rfl)) (fun _ _ _ _ _ => pts_nil) (fun _ _ _ _ _ => (pe_call FR hr rfl T.g__law_same T.F__law_same.kp T.b__law_same .nil pass0 (pa_cons (pe_ix (r := rIxL K) ix_list (pv 0) (pv 3) (fun _ _ => rfl)) (pa_cons (pe_ix (r := rIxL K) ix_list (pv 1) (pv 3) (fun _ _ => rfl)) pa_nil))))) pa_nil))))))))))), ?_⟩
    have kb : kitB "list" "bool" = some false := by decide +kernel
    have ki : kitB "list" "int" = some false := by decide +kernel
    have ks : kitB "list" "str" = some false := by decide +kernel
    have kl : kitB "list" "list" = some true := by decide +kernel
    refine q_when (b := false) (et_is (et_or (et_B (ev_isL (ev_var rfl) ha kb)) (fun _ => et_B (ev_isL (ev_var rfl) hb kb))) rfl) (fun z => by cases z) (fun _ H1 e1 => ?_)
    have ha := e1 _ _ ha
    have hb := e1 _ _ hb
    refine q_when (b := false) (et_is (et_or (et_B (ev_isL (ev_var rfl) ha ki)) (fun _ => et_B (ev_isL (ev_var rfl) hb ki))) rfl) (fun z => by cases z) (fun _ H2 e2 => ?_)
    have ha := e2 _ _ ha
    have hb := e2 _ _ hb
    refine q_when (b := false) (et_is (et_or (et_B (ev_isL (ev_var rfl) ha ks)) (fun _ => et_B (ev_isL (ev_var rfl) hb ks))) rfl) (fun z => by cases z) (fun _ H3 e3 => ?_)
    have ha := e3 _ _ ha
    have hb := e3 _ _ hb
    refine q_asg (v := .bl true) (ev_is (ev_andV (ev_isL (ev_var rfl) ha kl) (fun _ => ev_isL (ev_var rfl) hb kl)) rfl) (fun H4 e4 => ?_)
    have ha := e4 _ _ ha
    have hb := e4 _ _ hb
    refine q_when (b := false) (et_is (et_and (a := false) (b := false) (et_is (et_not (et_B (ev_var rfl))) rfl) (fun z => by cases z)) rfl) (fun z => by cases z) (fun _ H5 e5 => ?_)
    have ha := e5 _ _ ha
    have hb := e5 _ _ hb
    have e05 := (((e1.trans e2).trans e3).trans e4).trans e5
    refine s_ret (v := .bl true) (ev_is (ev_andV (a := true) (b := true) (ev_is (ev_op (x := .int (xs.length : Int)) (y := .int (xs.length : Int)) (ev_cb (ea_cons (ev_var rfl) ea_nil) fun H7 e7 Q q => ?_) (ev_cb (ea_cons (ev_var rfl) ea_nil) fun H7 e7 Q q => ?_) (rv_eq rfl)) (by simp)) (fun _ => ?_)) rfl) (fun H6 e6 => k H6 (e05.trans e6))
    · exact ⟨a, _, rfl, .inl (SqL.of (e7 _ _ ha)), q H7 (Ex.refl H7)⟩
    · exact ⟨b, _, rfl, .inl (SqL.of (e7 _ _ hb)), (by rw [← ln]; exact q H7 (Ex.refl H7))⟩
    · refine ev_is (ev_all (bs := List.replicate xs.length true) (given_eq (el_lcR1 (n := (xs.length : Int)) (fun _ => true) (fun _ => V.bl true) (ea_cons (ev_cb (ea_cons (ev_var rfl) ea_nil) fun H7 e7 Q q => ⟨a, _, rfl, .inl (SqL.of (e7 _ _ ha)), q H7 (Ex.refl H7)⟩) ea_nil) ⟨by omega, by omega⟩ (fun _ => rfl) (fun i H4 _ _ H5 _ Q q => q H5 (Ex.refl H5)) (fun i H6 e hi _ => ?_)))) (by simp)
      have hi2 : i < xs.length := by omega
      have hx : xs[i]? = some xs[i] := List.getElem?_eq_getElem hi2
      have hy : ys[i]? = some (ys[i]'(by omega)) := List.getElem?_eq_getElem (by omega)
      exact ev_call (ea_cons (ev_op (ev_var rfl) (ev_var rfl) (rv_ixL (SqL.of (e _ _ ha)) (atI_nat (j := i) hx))) (ea_cons (ev_op (ev_var rfl) (ev_var rfl) (rv_ixL (SqL.of (e _ _ hb)) (atI_nat (j := i) hy))) ea_nil)) fun H7 e7 => each i _ _ hx hy H7 ((e05.trans e).trans e7)
/-- the same data: flat things, lists and tuples of the same data, at most n deep -/
inductive SameV (H : Hp) : Nat → V → V → Prop
  | flat {n : Nat} {x : V} : flat4 x = true → SameV H n x x
  | lst {n : Nat} {a b : Addr} {xs ys : List V} : H a = some (.lst xs) → H b = some (.lst ys) → xs.length = ys.length → xs.length ≤ 100 → (∀ (i : Nat) (x y : V), xs[i]? = some x → ys[i]? = some y → SameV H n x y) → SameV H (n + 1) (.ref a) (.ref b)
  | tup {n : Nat} {a b : Addr} {xs ys : List V} : H a = some (.tup xs) → H b = some (.tup ys) → xs.length = ys.length → xs.length ≤ 100 → (∀ (i : Nat) (x y : V), xs[i]? = some x → ys[i]? = some y → SameV H n x y) → SameV H (n + 1) (.ref a) (.ref b)
theorem SameV.mono {H H' : Hp} {n : Nat} {x y : V} (s : SameV H n x y) (e : Ex H H') : SameV H' n x y := by
  induction s with
  | flat h => exact .flat h
  | lst a b c d _ ih => exact .lst (e _ _ a) (e _ _ b) c d ih
  | tup a b c d _ ih => exact .tup (e _ _ a) (e _ _ b) c d ih
theorem SameV.txtT {H : Hp} {n : Nat} {a b : Addr} {L : List Str} (ha : H a = some (.tup (L.map V.str))) (hb : H b = some (.tup (L.map V.str))) (few : L.length ≤ 100) : SameV H (n + 1) (.ref a) (.ref b) :=
  .tup ha hb rfl (by rw [List.length_map]; exact few) fun i x y hx hy => by
    rw [hx] at hy
    cases hy
    rw [List.getElem?_map] at hx
    cases c : L[i]? with
    | none => rw [c] at hx; cases hx
    | some z => rw [c] at hx; obtain rfl : V.str z = x := Option.some.inj hx; exact .flat rfl
/-- _law_same(one, other) of the same data -/
def spSameN (n : Nat) : Sp := fun vs H Q _ => ∃ x y : V, vs = [x, y] ∧ SameV H n x y ∧ ∀ H', Ex H H' → Q (.bl true) H'
theorem FnOk.imp {CX : CXT} {k : Nat} {f : Addr} {fd : FuncData} {ps : List Str} {sp1 sp2 : Sp} (F : FnOk P w K mg base CX k f fd ps sp1) (h : ∀ vs H Q E, sp2 vs H Q E → sp1 vs H Q E) : FnOk P w K mg base CX k f fd ps sp2 :=
  ⟨fun vs H Q E z => F.len vs H Q E (h _ _ _ _ z), fun A outer s H args us vs Q E hr e0 b v z => F.run A outer s H args us vs Q E hr e0 b v (h _ _ _ _ z)⟩
theorem okN__law_same (T : Txt P K mg) : ∀ n : Nat, FnOk P w K mg base CX0 (n + 1) T.f__law_same T.d__law_same ["_law_one", "_law_other"] (spSameN n)
  | 0 => FnOk.imp (ok__law_same T) fun vs H Q E h => by
    obtain ⟨x, y, rfl, s, q⟩ := h
    cases s with
    | flat f => exact ⟨x, x, rfl, f, f, fun H2 e2 => by rw [decide_eq_true rfl]; exact q H2 e2⟩
  | n + 1 => FnOk.imp (FnOk_or ((ok__law_same T).mono (by omega)) (FnOk_or (okLG__law_same T (okN__law_same T n)) (okG__law_same T (okN__law_same T n)))) fun vs H Q E h => by
    obtain ⟨x, y, rfl, s, q⟩ := h
    cases s with
    | flat f => exact .inl ⟨x, x, rfl, f, f, fun H2 e2 => by rw [decide_eq_true rfl]; exact q H2 e2⟩
    | lst a b c d each => exact .inr (.inl ⟨_, _, _, _, rfl, a, b, c, d, fun i x y hx hy H2 e2 Q' q' E' => ⟨x, y, rfl, (each i x y hx hy).mono e2, q'⟩, q⟩)
    | tup a b c d each => exact .inr (.inr ⟨_, _, _, _, rfl, a, b, c, d, fun i x y hx hy H2 e2 Q' q' E' => ⟨x, y, rfl, (each i x y hx hy).mono e2, q'⟩, q⟩)
end
section
open Evl
/-! ### comprehensions over texts -/
/-- [g(z) for z in a list of texts if p(z)] -/
theorem el_fmV {σ : L2.St} {H : Hp} {a : Addr} {L : List Str} {tl te : TE} {tt : TT} {j : Nat} {vs : List Nat} (p : Str → Bool) (g : Str → V) (h : Ev tl σ H (.ref a)) (hx : H a = some (.lst (L.map V.str))) (hz : L.length ≤ 40000) (hw : ∀ x, wipe ((wipe σ vs).set j (some x)) vs = wipe σ vs)
    (ht : ∀ z ∈ L, ∀ H1, Ex H H1 → EvT tt ((wipe σ vs).set j (some (.str z))) H1 (p z)) (he : ∀ z ∈ L, p z = true → ∀ H1, Ex H H1 → Ev te ((wipe σ vs).set j (some (.str z))) H1 (g z)) :
    EvL (tLc (iList K tl) (gName j) tt te vs) σ H ((L.filter p).map g) := fun H0 e Q q => h H0 e _ fun H1 e1 => by
  have e01 := e.trans e1
  refine ⟨a, rfl, ⟨_, sq_of (e01 _ _ hx)⟩, fun D nD => lc_list (K := K) (xs := L.map V.str) (fun i H' => Ex H1 H' ∧ H' D = some (.lst (((L.take i).filter p).map g))) ⟨Ex.new nD, upd_same⟩ (fun i H' _ x => sq_of (x.1 _ _ (e01 _ _ hx))) ?_ ?_⟩
  · rintro i x H3 hi ⟨q1, q2⟩
    obtain ⟨z, hz', rfl⟩ := pick_str hi
    have m := List.mem_of_getElem? hz'
    refine ⟨hw _, ?_⟩
    refine ht z m H3 (e01.trans q1) H3 (Ex.refl _) _ fun H4 e4 => ?_
    cases c : p z with
    | true =>
      rw [if_pos rfl]
      refine he z m c H4 ((e01.trans q1).trans e4) H4 (Ex.refl _) _ fun H5 e5 => ⟨_, e5 _ _ (e4 _ _ q2), ?_, Ex.mut ((q1.trans e4).trans e5) nD, ?_⟩
      · rw [List.length_map]
        have l1 := List.length_filter_le p (L.take i)
        have l2 := List.length_take_le' i L
        exact sz_lt (by omega)
      · rw [upd_same, List.take_add_one, hz']
        simp [c]
    | false =>
      rw [if_neg (by decide)]
      refine ⟨q1.trans e4, ?_⟩
      rw [e4 _ _ q2, List.take_add_one, hz']
      simp [c]
  · rintro H3 ⟨q1, q2⟩
    rw [List.length_map, List.take_length] at q2
    exact q D H3 (fresh_back e1 nD) (e1.trans q1) q2
/-- .. in a tuple of texts -/
theorem el_fmT {σ : L2.St} {H : Hp} {a : Addr} {L : List Str} {tl te : TE} {tt : TT} {j : Nat} {vs : List Nat} (p : Str → Bool) (g : Str → V) (h : Ev tl σ H (.ref a)) (hx : H a = some (.tup (L.map V.str))) (hz : L.length ≤ 40000) (hw : ∀ x, wipe ((wipe σ vs).set j (some x)) vs = wipe σ vs)
    (ht : ∀ z ∈ L, ∀ H1, Ex H H1 → EvT tt ((wipe σ vs).set j (some (.str z))) H1 (p z)) (he : ∀ z ∈ L, p z = true → ∀ H1, Ex H H1 → Ev te ((wipe σ vs).set j (some (.str z))) H1 (g z)) :
    EvL (tLc (iTup K tl) (gName j) tt te vs) σ H ((L.filter p).map g) := fun H0 e Q q => h H0 e _ fun H1 e1 => by
  have e01 := e.trans e1
  refine ⟨a, rfl, ⟨_, st_of (e01 _ _ hx)⟩, fun D nD => lc_tup (K := K) (xs := L.map V.str) (fun i H' => Ex H1 H' ∧ H' D = some (.lst (((L.take i).filter p).map g))) ⟨Ex.new nD, upd_same⟩ (fun i H' _ x => st_of (x.1 _ _ (e01 _ _ hx))) ?_ ?_⟩
  · rintro i x H3 hi ⟨q1, q2⟩
    obtain ⟨z, hz', rfl⟩ := pick_str hi
    have m := List.mem_of_getElem? hz'
    refine ⟨hw _, ?_⟩
    refine ht z m H3 (e01.trans q1) H3 (Ex.refl _) _ fun H4 e4 => ?_
    cases c : p z with
    | true =>
      rw [if_pos rfl]
      refine he z m c H4 ((e01.trans q1).trans e4) H4 (Ex.refl _) _ fun H5 e5 => ⟨_, e5 _ _ (e4 _ _ q2), ?_, Ex.mut ((q1.trans e4).trans e5) nD, ?_⟩
      · rw [List.length_map]
        have l1 := List.length_filter_le p (L.take i)
        have l2 := List.length_take_le' i L
        exact sz_lt (by omega)
      · rw [upd_same, List.take_add_one, hz']
        simp [c]
    | false =>
      rw [if_neg (by decide)]
      refine ⟨q1.trans e4, ?_⟩
      rw [e4 _ _ q2, List.take_add_one, hz']
      simp [c]
  · rintro H3 ⟨q1, q2⟩
    rw [List.length_map, List.take_length] at q2
    exact q D H3 (fresh_back e1 nD) (e1.trans q1) q2
theorem filter_yes (L : List Str) : L.filter (fun _ => true) = L := List.filter_eq_self.mpr fun _ _ => rfl
/-- all([p(z) for z in ..]) -/
theorem all_map (L : List Str) (p : Str → Bool) : ((L.filter (fun _ => true)).map fun z => V.bl (p z)) = (L.map p).map V.bl := by
  rw [filter_yes, List.map_map]
  rfl
theorem ev_allV {σ : L2.St} {H : Hp} {tl : TE} {bs : List Bool} {b : Bool} (h : EvL tl σ H (bs.map V.bl)) (e : bs.all id = b) : Ev (tCB (rAll K) (tCons tl tNil)) σ H (.bl b) := by
  rw [← e]
  exact ev_all h
theorem ev_fld {C a dx : Addr} {f : Str} {fs : List (Str × V)} {v : V} {σ : L2.St} {H : Hp} {ta : TE} (h : Ev ta σ H (.ref a)) (hx : H a = some (.ins C dx fs)) (cl : Cls K C) (na : NoAttr K C f) (hl : List.lookup f fs = some v) : Ev (tFld K ta f) σ H v :=
  fun H1 e Q q => h H1 e _ fun H2 e2 => ⟨a, C, dx, fs, v, rfl, e2 _ _ (e _ _ hx), cl, na, hl, q H2 e2⟩
/-! ### Clause's own methods -/
/-- a clause at a, its literals -/
def ClAt (C : Addr) (H : Hp) (a : Addr) (D : List Str) : Prop := ∃ dx p, H a = some (.ins C dx [("literals", .ref p)]) ∧ H p = some (.tup (D.map V.str))
theorem ClAt.mono {C : Addr} {H H' : Hp} {a : Addr} {D : List Str} (c : ClAt C H a D) (e : Ex H H') : ClAt C H' a D := by
  obtain ⟨dx, p, h1, h2⟩ := c
  exact ⟨dx, p, e _ _ h1, e _ _ h2⟩
/-- o.literals of a clause -/
theorem ev_lts (T : Txt P K mg) {σ : L2.St} {H : Hp} {te : TE} {a dx p : Addr} (h : Ev te σ H (.ref a)) (hx : H a = some (.ins T.C_Clause dx [("literals", .ref p)])) : Ev (tFld K te "literals") σ H (.ref p) := ev_fld h hx T.cl_Clause T.na_Clause_literals rfl
end
section
open Evl
/-- the same flat thing -/
theorem ev_sN {σ : L2.St} {H : Hp} {ta tb : TE} {n : Nat} {x : V} {E : XK} (ha : Ev ta σ H x) (hb : Ev tb σ H x) (f : flat4 x = true) : Ev (tCall (spSameN n) [] E (tCons ta (tCons tb tNil))) σ H (.bl true) :=
  ev_call (ea_cons ha (ea_cons hb ea_nil)) fun H1 _ Q q E => ⟨x, x, rfl, .flat f, q⟩
/-- tuple(l) of a new list of texts -/
theorem eu_tupL {σ : L2.St} {H : Hp} {te : TE} {xs : List V} (h : EvL te σ H xs) : EvU (tCB (fun xs H Q => ∃ p ys, xs = [.ref p] ∧ ((SqL K H p ys ∧ ∀ l, H l = none → Q (.ref l) (upd H l (.tup ys))) ∨ (SqT K H p ys ∧ Q (.ref p) H))) (tCons te tNil)) σ H xs := fun H1 e1 Q q =>
  h H1 e1 _ fun p H2 np e2 hp => ⟨p, xs, rfl, .inl ⟨SqL.of hp, fun l nl => q l _ (fresh_back e2 nl) (e2.trans (Ex.new nl)) upd_same⟩⟩
end
theorem ord_any (L : List Str) : ∃ N, Ord L N := by
  have perm := List.mergeSort_perm L (fun a b => decide (a.cps.toList ≤ b.cps.toList))
  have srt : (L.mergeSort (fun a b => decide (a.cps.toList ≤ b.cps.toList))).Pairwise leS := by
    have z := List.pairwise_mergeSort (le := fun a b => decide (a.cps.toList ≤ b.cps.toList)) (fun a b c h1 h2 => by
      simp only [decide_eq_true_eq] at h1 h2 ⊢
      exact leS_trans h1 h2) (fun a b => by
      simp only [Bool.or_eq_true, decide_eq_true_eq]
      exact List.le_total _ _) L
    exact z.imp fun h => of_decide_eq_true h
  obtain ⟨a, b, c⟩ := dd_spec (L.mergeSort (fun a b => decide (a.cps.toList ≤ b.cps.toList))) [] .nil srt
  exact ⟨_, a, b, fun x => by rw [c x, perm.mem_iff]; simp⟩
section
open Evl
/-- a list somewhere -/
def EvLs (te : TE) (σ : L2.St) (H : Hp) (xs : List V) : Prop := ∀ H1, Ex H H1 → ∀ Q : VK, (∀ p H2, Ex H1 H2 → H2 p = some (.lst xs) → Q (.ref p) H2) → te σ H1 Q
theorem els_new {te : TE} {σ : L2.St} {H : Hp} {xs : List V} (h : EvL te σ H xs) : EvLs te σ H xs := fun H1 e1 Q q => h H1 e1 Q fun p H2 _ e2 hp => q p H2 e2 hp
theorem els_at {te : TE} {σ : L2.St} {H : Hp} {xs : List V} {p : Addr} (h : Ev te σ H (.ref p)) (hp : H p = some (.lst xs)) : EvLs te σ H xs := fun H1 e1 Q q => h H1 e1 Q fun H2 e2 => q p H2 e2 (e2 _ _ (e1 _ _ hp))
theorem el_cat {ta tb : TE} {σ : L2.St} {H : Hp} {xs ys : List V} (h1 : EvLs ta σ H xs) (h2 : EvLs tb σ H ys) (len : xs.length + ys.length ≤ 100000) : EvL (tOp rCat ta tb) σ H (xs ++ ys) := fun H1 e1 Q q =>
  h1 H1 e1 _ fun p H2 e2 hp => h2 H2 (e1.trans e2) _ fun r H3 e3 hr => ⟨p, r, xs, ys, rfl, rfl, e3 _ _ hp, hr, sz_of len, fun l nl => q l _ (fresh_back (e2.trans e3) nl) ((e2.trans e3).trans (Ex.new nl)) upd_same⟩
end
section
open Evl
theorem lit_txt {z : Str} (h : isLit z = true) : Txt8 10 z := by
  have n : isName (bare z) = true := h
  rcases lit_form (z := z) with e | e
  · rw [e]; exact (name_txt n).mono (by decide)
  · rw [e]; exact ((show Txt8 1 "-" from ⟨by decide, by decide⟩).app (name_txt n)).mono (by decide)
theorem empty_app (z : Str) : "" ++ z = z := str_eq (by rw [app_codes]; rfl)
/-- a row: literals of different names, at most n -/
structure RowL (n : Nat) (L : List Str) : Prop where
  few : L.length ≤ n
  lit : ∀ z ∈ L, isLit z = true
  apart : (L.map bare).Nodup
theorem RowL.mono {n m : Nat} {L : List Str} (r : RowL n L) (h : n ≤ m) : RowL m L := ⟨Nat.le_trans r.few h, r.lit, r.apart⟩
theorem RowL.nil : RowL 0 [] := ⟨Nat.le_refl _, (fun z hz => (by cases hz)), List.nodup_nil⟩
theorem bare_out {L : List Str} {n : Str} (h1 : n ∉ L) (h2 : ("-" ++ n) ∉ L) : n ∉ L.map bare := fun h => by
  obtain ⟨z, hz, e⟩ := List.mem_map.mp h
  rcases lit_form (z := z) with q | q
  · rw [e] at q; rw [q] at hz; exact h1 hz
  · rw [e] at q; rw [q] at hz; exact h2 hz
theorem RowL.add {n : Nat} {L : List Str} {z : Str} (r : RowL n L) (hz : isLit z = true) (h : bare z ∉ L.map bare) : RowL (n + 1) (L ++ [z]) :=
  ⟨by rw [List.length_append, List.length_singleton]; have := r.few; omega, fun y hy => by
    rcases List.mem_append.mp hy with q | q
    · exact r.lit y q
    · rw [List.mem_singleton.mp q]; exact hz, by
    rw [List.map_append, List.nodup_append]
    refine ⟨r.apart, by simp, fun a ha b hb => ?_⟩
    rw [List.map_cons, List.map_nil, List.mem_singleton] at hb
    intro e
    rw [e, hb] at ha
    exact h ha⟩
/-- _law_row(source, names, most) -/
def spRow : Sp := fun vs H Q _ => ∃ (a l : Addr) (ns : List Int) (b : Addr) (nms : List Str) (m : Nat), vs = [.ref a, .ref b, .int (m : Int)] ∧ m ≤ 20 ∧ SrcL H a l ns ∧ H b = some (.lst (nms.map V.str)) ∧ b ≠ a ∧ 0 < nms.length ∧ nms.length ≤ 40 ∧ (∀ z ∈ nms, isName z = true) ∧
  ∀ (H' : Hp) (p : Addr) (L : List Str), H p = none → SrcL H' a l ns → But a H H' → H' p = some (.lst (L.map V.str)) → RowL m L → (∀ z ∈ L, bare z ∈ nms) → Q (.ref p) H'
theorem ok__law_row (T : Txt P K mg) : FnOk P w K mg base CX0 2 T.f__law_row T.d__law_row ["_law_source_here", "_law_names_here", "_law_most"] spRow := by
  refine T.F__law_row.ok sc__law_row (fun vs H Q E h => ?_) (fun cdv A outer s H vs Q E hr h => ?_)
  · obtain ⟨a, l, ns, b, nms, m, rfl, _⟩ := h
    rfl
  · obtain ⟨a, l, ns, b, nms, m, rfl, m20, S, hb, ba, n0, n40, nm, q⟩ := h
    refine ⟨_, (pss_cons (ps_set (i := 3) sc__law_row.nd rfl (.inl rfl) (pe_lst pa_nil))
      (pss_cons (ps_for PassesOwn.never rfl (pi_range1 rfl T.n_range (pa_cons (pe_call (okL__law_take T) (hr.mono (by decide)) rfl T.g__law_take T.F__law_take.kp T.b__law_take .nil pass0 (pa_cons (pv 0) (pa_cons (pe_op op_add (pv 2) pe_int) pa_nil))) pa_nil)) (pg_name (i := 4) sc__law_row.nd rfl (.inl rfl)) (pss_cons (ps_set (i := 5) sc__law_row.nd rfl (.inl rfl) (pe_ix ix_list (pv 1) (pe_call (okL__law_take T) (hr.mono (by decide)) rfl T.g__law_take T.F__law_take.kp T.b__law_take .nil pass0 (pa_cons (pv 0) (pa_cons (pe_callB call_len_seq (by rfl) T.n_len PySem.boot_len (pa_cons (pv 1) pa_nil)) pa_nil))) (fun _ _ => rfl)))
      (pss_one (ps_if (PW.pt (pw_and (pt_cmpR op_notIn_seq (pv 5) (pv 3) (by rfl)) (pw_and1 (pt_cmpR op_notIn_seq (pe_op op_add_str pe_str (pv 5)) (pv 3) (by rfl))))) (pss_one (ps_expr (pe_bm PySem.F.plainAttrs_list PySem.F.slot_list_append PySem.F.type_list_append mt_append (pv 3) (pa_cons (pe_op op_add_str (pe_ix ix_list (pe_lst (pa_cons pe_str (pa_cons pe_str pa_nil))) (pe_call (okL__law_take T) (hr.mono (by decide)) rfl T.g__law_take T.F__law_take.kp T.b__law_take .nil pass0 (pa_cons (pv 0) (pa_cons pe_int pa_nil))) (fun _ _ => rfl)) (pv 5)) pa_nil)))) pss_nil))))
      (pss_one (ps_ret (pv 3))))), ?_⟩
    refine ⟨(by show 0 ≤ sizeLine; decide), fun p np => ?_⟩
    have offp := srl_off S np
    refine ⟨.ref a, rfl, _, rfl, _, _, rfl, rfl, a, _, l, ns, rfl, srl_new S np, by omega, by omega, fun H1 r r0 r1 S1 B1 => ?_⟩
    have B01 : But a H H1 := fun c o n e => B1 c o n (by rw [upd_ne (ne_of_none e np)]; exact e)
    refine ⟨r, rfl, by omega, by omega, for_range (lo := 0) (n := r.toNat) (fun i σ H' => ∃ (L : List Str) (v4 v5 : Option V), σ = [some (V.ref a), some (.ref b), some (.int (m : Int)), some (.ref p), v4, v5] ∧ SrcL H' a l ns ∧ But a H H' ∧ H' p = some (.lst (L.map V.str)) ∧ RowL i L ∧ ∀ z ∈ L, bare z ∈ nms)
      ⟨[], _, _, rfl, S1, B01, B1 p _ offp.1 upd_same, RowL.nil, fun z hz => nomatch hz⟩ ?_ ?_⟩
    · rintro i σ H3 hi ⟨L, v4, v5, rfl, S3, B3, h3, row, ins⟩
      have hb3 := B3 b _ ba hb
      refine ⟨.ref b, rfl, .ref a, rfl, .ref b, rfl, b, _, rfl, .inl (SqL.of hb3), a, _, l, ns, rfl, S3, (by rw [List.length_map]; omega), (by rw [List.length_map]; omega), fun H4 k k0 k1 S4 B4 => ?_⟩
      rw [List.length_map] at k1
      have hb4 := B4 b _ ba hb3
      have h4 := B4 p _ offp.1 h3
      have B04 := B3.trans B4
      have kl : k.toNat < nms.length := by omega
      have hk : (nms.map V.str)[k.toNat]? = some (.str nms[k.toNat]) := by rw [List.getElem?_map, List.getElem?_eq_getElem kl] <;> rfl
      have mn : nms[k.toNat] ∈ nms := List.getElem_mem kl
      have nk := nm nms[k.toNat] mn
      generalize nms[k.toNat] = n at hk nk mn
      have ns := (name_txt nk).1
      refine ⟨b, _, k, _, rfl, rfl, SqL.of hb4, at_of (by omega) hk, ?_⟩
      refine s_when (b := !decide (n ∈ L) && !decide (("-" ++ n) ∈ L)) (et_and (et_test (ev_niStr (ev_var rfl) (ev_var rfl) h4)) (fun _ => et_test (ev_niStr (ev_op (y := .str n) ev_c (ev_var rfl) (fun H5 _ Q q => ⟨"-", n, rfl, rfl, line_of (minus_len (by omega)), q H5 (Ex.refl H5)⟩)) (ev_var rfl) h4))) (fun c H5 e5 => ?_) (fun c H5 e5 => ?_)
      · have c1 : n ∉ L := by
          intro h
          rw [decide_eq_true h] at c
          cases c
        have c2 : ("-" ++ n) ∉ L := by
          intro h
          rw [decide_eq_true h, Bool.and_comm] at c
          cases c
        have S5 := srl_ex S4 e5
        have h5 := e5 _ _ h4
        have B05 : But a H H5 := fun c o n e => e5 _ _ (B04 c o n e)
        refine ⟨.ref p, rfl, Or.inl ⟨rfl, _, SqL.of h5⟩, ?_⟩
        refine ⟨(by show 2 ≤ sizeLine; decide), fun d nd => ⟨.ref a, rfl, a, 2, l, _, rfl, srl_new S5 nd, by decide, by decide, fun H6 t t0 t1 S6 B6 => ?_⟩⟩
        have offd := srl_off S5 nd
        have dp : d ≠ p := fun e => by rw [e, h5] at nd; cases nd
        have hd6 : H6 d = some (.lst [.str "", .str "-"]) := B6 d _ offd.1 upd_same
        have h6 : H6 p = some (.lst (L.map V.str)) := B6 p _ offp.1 (by rw [upd_ne dp.symm]; exact h5)
        have B06 : But a H H6 := B05.trans fun c o n e => B6 c o n (by rw [upd_ne (ne_of_none e nd)]; exact e)
        obtain ⟨ds, hds, dd2⟩ : ∃ ds : Str, ([V.str "", .str "-"] : List V)[t.toNat]? = some (.str ds) ∧ (ds = "" ∨ ds = "-") := by
          have h2 : t = 0 ∨ t = 1 := by omega
          rcases h2 with rfl | rfl
          · exact ⟨"", rfl, .inl rfl⟩
          · exact ⟨"-", rfl, .inr rfl⟩
        have z9 : isLit (ds ++ n) = true ∧ bare (ds ++ n) = n := by
          rcases dd2 with rfl | rfl
          · rw [empty_app]; exact ⟨name_lit nk, bare_no (name_dash nk)⟩
          · exact ⟨minus_lit nk, bare_minus n⟩
        have d1 : ds.length ≤ 1 := by rcases dd2 with rfl | rfl <;> decide
        refine ⟨d, _, t, _, rfl, rfl, SqL.of hd6, at_of (by omega) hds, _, rfl, _, _, rfl, rfl, line_of ?_, p, _, _, rfl, rfl, h6, ?_, ?_⟩
        · have h2 : n.length = n.cps.size := rfl
          omega
        · rw [List.length_map]; have := row.few; exact Evl.sz_lt (by omega)
        · exact ⟨L ++ [ds ++ n], _, _, rfl, srl_put S6 offp.1 offp.2, B06.upd2 np, by rw [upd_same, List.map_append] <;> rfl, row.add z9.1 (by rw [z9.2]; exact bare_out c1 c2), fun z hz => by
            rcases List.mem_append.mp hz with u | u
            · exact ins z u
            · rw [List.mem_singleton.mp u, z9.2]; exact mn⟩
      · exact ⟨L, _, _, rfl, srl_ex S4 e5, fun c o n e => e5 _ _ (B04 c o n e), e5 _ _ h4, row.mono (by omega), ins⟩
    · rintro σ H3 ⟨L, v4, v5, rfl, S3, B3, h3, row, ins⟩
      exact ⟨_, rfl, q H3 p L np S3 B3 h3 (row.mono (by omega)) ins⟩
end
section
open Evl
theorem passN0 {X : Cx} : Passes (L2N.CX X.prog X.w) X E0 := fun _ _ _ _ _ _ _ h => by
  obtain ⟨a, B, H', cls, d, _, _, _, _, _, _, _, he⟩ := h
  exact he.elim
end
section
open Evl
/-! ### names, positives, str of a clause -/
/-- the text of a clause -/
def ctext (D : List Str) : Str := if D = [] then "0" else Txt.join " | " D
theorem ev_litC {C : Addr} {g : Str → V} {σ : L2.St} {H : Hp} {te : TE} {z : Str} (h : Ev te σ H (.str z)) (hz : z.cps.size ≤ 260) (hc : ∀ c ∈ z.cps.toList, c < 128) (hl : isLit z = true) : Ev (tCall (spLit C g) [] E0 (tCons te tNil)) σ H (g z) :=
  ev_call (ea_cons h ea_nil) fun H1 _ Q q E => ⟨z, rfl, hz, hc, fun _ H2 e2 => q H2 e2, fun no => absurd hl (by rw [no]; decide)⟩
/-- literals of a clause, good enough for its reports -/
def LitsOk (D : List Str) : Prop := D.length ≤ 12 ∧ ∀ z ∈ D, isLit z = true ∧ Txt8 20 z
def spCNames (C : Addr) : Sp := fun vs H Q _ => ∃ (a : Addr) (D : List Str), vs = [.ref a] ∧ ClAt C H a D ∧ LitsOk D ∧ ∀ H' p, Ex H H' → H p = none → H' p = some (.tup ((D.map bare).map V.str)) → Q (.ref p) H'
theorem ok_Clause_names (T : Txt P K mg) : FnOk P w K mg base CX0 5 T.f_Clause_names T.d_Clause_names ["self"] (spCNames T.C_Clause) := by
  refine T.F_Clause_names.ok sc_Clause_names (fun vs H Q E h => ?_) (fun cdv A outer s H vs Q E hr h => ?_)
  · obtain ⟨a, D, rfl, _⟩ := h
    rfl
  · obtain ⟨a, D, rfl, ⟨dx, p, ha, hp⟩, ⟨few, lit⟩, q⟩ := h
    refine ⟨_, (pss_one (ps_ret (pe_callTy call_tuple_of (by rfl) T.n_tuple (by decide +kernel) (pa_cons (pe_lc (own := [("literal", 1)]) (g := gName 1) (by rfl) sc_Clause_names.nd (pi_tup (pe_fld (pv 0) rfl)) (blkOk_by (own := [("literal", 1)]) (N := N_Clause_names) (sc := defScope s_Clause_names) (by decide +kernel)) (fun _ _ _ _ _ => pg_name (i := 1) sc_Clause_names.nd rfl (Or.inl rfl)) (fun _ _ _ _ _ => pts_nil) (fun _ _ _ _ _ => (pe_call (ok_name_of T) (hr.mono (by decide)) rfl T.g_name_of T.F_name_of.kp T.b_name_of .nil passN0 (pa_cons (pv 1) pa_nil)))) pa_nil)))), ?_⟩
    have body : EvL (tLc (iTup K (tFld K (tVar 0) "literals")) (gName 1) tYes (tCall (spLit T.C_BadLiteral fun z => .str (bare z)) [] E0 (tCons (tVar 1) tNil)) [1]) [some (V.ref a), none] H ((D.map bare).map V.str) := by
      have z := el_fmT (K := K) (σ := [some (V.ref a), none]) (j := 1) (vs := [1]) (te := tCall (spLit T.C_BadLiteral fun z => .str (bare z)) [] E0 (tCons (tVar 1) tNil)) (fun _ => true) (fun z => V.str (bare z)) (ev_lts T (ev_var (i := 0) (σ := [some (V.ref a), none]) rfl) ha) hp (by omega) (fun _ => rfl) (fun _ _ _ _ => et_yes) (fun z m _ H3 e3 => ev_litC (ev_var rfl) (Nat.le_trans (lit z m).2.1 (by decide)) (lit z m).2.2 (lit z m).1)
      rw [filter_yes] at z
      rw [List.map_map]
      exact z
    exact s_retU (eu_tupL body) fun t H1 nt e1 ht => q H1 t e1 nt ht
end
theorem due_cong {A B N : List Str} (h : ∀ z, z ∈ A ↔ z ∈ B) : due A N = due B N := by
  have e : pick A = pick B := by
    funext n
    unfold pick
    refine List.filter_congr fun z _ => ?_
    exact decide_eq_decide.mpr (h z)
  unfold due
  rw [e]
section
open Evl
theorem inj_nodup {L : List Str} : (L.map bare).Nodup → ∀ x ∈ L, ∀ y ∈ L, bare x = bare y → x = y := by
  induction L with
  | nil => intro _ x hx; cases hx
  | cons a r ih =>
    intro nd x hx y hy e
    rw [List.map_cons, List.nodup_cons] at nd
    obtain ⟨n1, n2⟩ := nd
    have out : ∀ {u : Str}, u ∈ r → bare u ≠ bare a := fun hu q => n1 (List.mem_map.mpr ⟨_, hu, q⟩)
    rcases List.mem_cons.mp hx with q1 | q1
    · rcases List.mem_cons.mp hy with q2 | q2
      · rw [q1, q2]
      · rw [q1] at e; exact (out q2 e.symm).elim
    · rcases List.mem_cons.mp hy with q2 | q2
      · rw [q2] at e; exact (out q1 e).elim
      · exact ih n2 x q1 y q2 e
theorem nodup_of_map {L : List Str} (h : (L.map bare).Nodup) : L.Nodup := by
  induction L with
  | nil => exact List.nodup_nil
  | cons a r ih =>
    rw [List.map_cons, List.nodup_cons] at h
    exact List.nodup_cons.mpr ⟨fun m => h.1 (List.mem_map.mpr ⟨a, m, rfl⟩), ih h.2⟩
theorem minus_ne (n : Str) : ("-" ++ n) ≠ n := fun e => by
  have z := congrArg (fun x : Str => x.cps.toList.length) e
  simp only [minus_codes, List.length_cons] at z
  omega
theorem RowL.one {k : Nat} {L : List Str} (r : RowL k L) (n : Str) : bothIn L n = false := by
  cases e : bothIn L n with
  | false => rfl
  | true =>
    unfold bothIn at e
    obtain ⟨a, b⟩ := Bool.and_eq_true_iff.mp e
    have h1 := of_decide_eq_true a
    have h2 := of_decide_eq_true b
    have ln := r.lit _ h2
    have nm : isName n = true := by have z := lit_bare ln; rwa [bare_minus] at z
    have eb : bare ("-" ++ n) = bare n := by rw [bare_minus, bare_no (name_dash nm)]
    exact absurd (inj_nodup r.apart _ h2 _ h1 eb) (minus_ne n)
theorem due_nodup {L N : List Str} (nd : N.Nodup) (h : ∀ n ∈ N, dash n = false) : (due L N).Nodup := by
  unfold due List.Nodup
  rw [List.pairwise_flatMap]
  refine ⟨fun n hn => ?_, ?_⟩
  · have two : ([n, "-" ++ n] : List Str).Nodup := by
      refine List.nodup_cons.mpr ⟨fun m => ?_, by simp⟩
      exact minus_ne n (List.mem_singleton.mp m).symm
    exact two.sublist List.filter_sublist
  · refine List.Pairwise.imp_of_mem (fun {a b} ha hb ne x hx y hy e => ?_) nd
    have e1 := (bare_pick (h a ha) hx).1
    have e2 := (bare_pick (h b hb) hy).1
    rw [e, e2] at e1
    exact ne e1.symm
theorem RowL.ndash {k : Nat} {L N : List Str} (r : RowL k L) (od : Ord (L.map bare) N) : ∀ n ∈ N, dash n = false := fun n hn => by
  obtain ⟨z, hz, rfl⟩ := List.mem_map.mp ((od.mem n).mp hn)
  exact name_dash (lit_bare (r.lit z hz))
theorem RowL.due_len {k : Nat} {L N : List Str} (r : RowL k L) (od : Ord (L.map bare) N) : (due L N).length = L.length :=
  Nat.le_antisymm (perm_len_le (due_nodup od.nd (r.ndash od)) fun x hx => (due_mem od x).mp hx) (perm_len_le (nodup_of_map r.apart) fun x hx => (due_mem od x).mpr hx)
theorem mem_bare {A B : List Str} (h : ∀ x, x ∈ A ↔ x ∈ B) (n : Str) : n ∈ A.map bare ↔ n ∈ B.map bare := by
  rw [List.mem_map, List.mem_map]
  exact ⟨fun ⟨z, a, b⟩ => ⟨z, (h z).mp a, b⟩, fun ⟨z, a, b⟩ => ⟨z, (h z).mpr a, b⟩⟩
/-- a clause somewhere -/
def EvC (C : Addr) (te : TE) (σ : L2.St) (H : Hp) (D : List Str) : Prop := ∀ H1, Ex H H1 → ∀ Q : VK, (∀ x H2, Ex H1 H2 → ClAt C H2 x D → Q (.ref x) H2) → te σ H1 Q
theorem RowL.txt {k : Nat} {L : List Str} (r : RowL k L) : ∀ z ∈ L, Txt8 20 z := fun z hz => (lit_txt (r.lit z hz)).mono (by decide)
end
section
open Evl
theorem eu_namesC {C : Addr} {σ : L2.St} {H : Hp} {te : TE} {a : Addr} {D : List Str} {E : XK} (h : Ev te σ H (.ref a)) (c : ClAt C H a D) (ok : LitsOk D) : EvU (tProp C (spCNames C) [] E te) σ H ((D.map bare).map V.str) := fun H1 e1 Q q =>
  h H1 e1 _ fun H2 e2 => by
    have c2 := (c.mono e1).mono e2
    obtain ⟨dx, p, ha, hp⟩ := id c2
    exact ⟨a, dx, _, rfl, ha, a, D, rfl, c2, ok, fun H3 t e3 nt ht => q t H3 (fresh_back e2 nt) (e2.trans e3) ht⟩
/-- clauses, each with its literals, somewhere -/
def ClsAt (C : Addr) (H : Hp) (cs : List (Addr × List Str)) : Prop := ∀ c ∈ cs, ClAt C H c.1 c.2 ∧ LitsOk c.2
theorem ClsAt.mono {C : Addr} {H H' : Hp} {cs : List (Addr × List Str)} (h : ClsAt C H cs) (e : Ex H H') : ClsAt C H' cs := fun c m => ⟨(h c m).1.mono e, (h c m).2⟩
theorem str_inj : ∀ {L M : List Str}, L.map V.str = M.map V.str → L = M
  | [], [], _ => rfl
  | [], _ :: _, h => by cases h
  | _ :: _, [], h => by cases h
  | x :: L, y :: M, h => by
    rw [List.map_cons, List.map_cons] at h
    injection h with h1 h2
    injection h1 with h1
    rw [h1, str_inj h2]
theorem ClAt.one {C : Addr} {H : Hp} {a : Addr} {D D' : List Str} (h : ClAt C H a D) (h' : ClAt C H a D') : D = D' := by
  obtain ⟨dx, p, h1, h2⟩ := h
  obtain ⟨dy, q, h3, h4⟩ := h'
  rw [h1] at h3
  cases h3
  rw [h2] at h4
  injection h4 with h4
  injection h4 with h4
  exact str_inj h4
/-- the names of the clause that a value is -/
def namesIn (cs : List (Addr × List Str)) : V → List V
  | .ref a => match cs.find? (fun c => c.1 == a) with | some c => (c.2.map bare).map V.str | none => []
  | _ => []
theorem namesIn_of {C : Addr} {H : Hp} {cs : List (Addr × List Str)} (h : ClsAt C H cs) {c : Addr × List Str} (m : c ∈ cs) : namesIn cs (.ref c.1) = (c.2.map bare).map V.str := by
  show (match cs.find? (fun x => x.1 == c.1) with | some c => (c.2.map bare).map V.str | none => []) = _
  cases e : cs.find? (fun x => x.1 == c.1) with
  | none => exact absurd (List.find?_eq_none.mp e c m) (by simp)
  | some d =>
    have md := List.mem_of_find?_eq_some e
    have q : d.1 = c.1 := by simpa using List.find?_some e
    have h1 := (h d md).1
    rw [q] at h1
    show (d.2.map bare).map V.str = _
    rw [ClAt.one h1 (h c m).1]
/-- all the names of clauses, as they come -/
def allNames (cs : List (Addr × List Str)) : List Str := cs.flatMap fun c => c.2.map bare
theorem namesIn_all {C : Addr} {H : Hp} {cs : List (Addr × List Str)} (h : ClsAt C H cs) : (cs.map fun c => V.ref c.1).flatMap (namesIn cs) = (allNames cs).map V.str := by
  have go : ∀ ds : List (Addr × List Str), (∀ c ∈ ds, c ∈ cs) → (ds.map fun c => V.ref c.1).flatMap (namesIn cs) = (allNames ds).map V.str := by
    intro ds
    induction ds with
    | nil => intro _; rfl
    | cons d r ih =>
      intro hm
      unfold allNames
      rw [List.map_cons, List.flatMap_cons, List.flatMap_cons, List.map_append, namesIn_of h (hm d List.mem_cons_self), ih fun c m => hm c (List.mem_cons_of_mem _ m)]
      rfl
  exact go cs fun _ m => m
def spNin (C : Addr) : Sp := fun vs H Q _ => ∃ (l : Addr) (cs : List (Addr × List Str)), vs = [.ref l] ∧ H l = some (.lst (cs.map fun c => V.ref c.1)) ∧ ClsAt C H cs ∧ (allNames cs).length + 1 < 4096 ∧
  ∀ H' p ss, Ex H H' → H p = none → ss.Perm (putL (allNames cs)) → sortedS ss = true → H' p = some (.lst (ss.map V.str)) → Q (.ref p) H'
theorem ok_names_in (T : Txt P K mg) : FnOk P w K mg base CX0 7 T.f__names_in T.d__names_in ["clauses"] (spNin T.C_Clause) := by
  refine T.F__names_in.ok sc__names_in (fun vs H Q E h => ?_) (fun cdv A outer s H vs Q E hr h => ?_)
  · obtain ⟨a, ns, rfl, _⟩ := h
    rfl
  · obtain ⟨l, cs, rfl, hl, hc, few, q⟩ := h
    refine ⟨_, (pss_one (ps_ret (pe_callB (cr_srtS rfl) (by rfl) T.n_sorted (by decide +kernel) (pa_cons (pe_callTy (cr_setS rfl) (by rfl) T.n_set (by decide +kernel) (pa_cons (pe_lc2 (own := [("clause", 1), ("name", 2)]) (vs1 := [2]) (wi1 := iTup K (tProp T.C_Clause (spCNames T.C_Clause) [] E0 (tVar 1))) (g := gName 1) (g1 := gName 2) (by rfl) sc__names_in.nd (pi_list (pv 0)) (blkOk_by (own := [("clause", 1), ("name", 2)]) (N := N__names_in) (sc := defScope s__names_in) (by decide +kernel)) (by decide)
      (fun _ _ _ _ _ => pg_name (i := 1) sc__names_in.nd rfl (Or.inl rfl)) (fun _ _ _ _ _ => pts_nil) (fun _ _ _ _ _ => pi_tup (pe_prop (pv 1) T.cl_Clause T.P_Clause_names (ok_Clause_names T) (hr.mono (by decide)) T.b_Clause_names .nil pass0 (by rfl)))
      (fun _ _ _ _ _ => pg_name (i := 2) sc__names_in.nd rfl (Or.inl rfl)) (fun _ _ _ _ _ => pts_nil) (fun _ _ _ _ _ => (pv 2))) pa_nil)) pa_nil)))), ?_⟩
    have body : EvL (tLc2 (iList K (tVar 0)) (gName 1) tYes (iTup K (tProp T.C_Clause (spCNames T.C_Clause) [] E0 (tVar 1))) (gName 2) tYes (tVar 2) [1, 2] [2]) [some (V.ref l), none, none] H ((cs.map fun c => V.ref c.1).flatMap (namesIn cs)) :=
      el_lc2 (K := K) (ys := cs.map fun c => V.ref c.1) (namesIn cs) (ev_var rfl) (sq_of hl) (by rw [namesIn_all hc, List.length_map]; omega) (fun _ => rfl) (fun _ _ => rfl) (fun y hy H1 e1 => by
        obtain ⟨c, m, rfl⟩ := List.mem_map.mp hy
        rw [namesIn_of hc m]
        exact eu_namesC (ev_var rfl) ((hc c m).1.mono e1) (hc c m).2) (fun y hy x hx H1 e1 => ev_var rfl)
    rw [namesIn_all hc] at body
    show tLc2 (iList K (tVar 0)) (gName 1) tYes (iTup K (tProp T.C_Clause (spCNames T.C_Clause) [] E0 (tVar 1))) (gName 2) tYes (tVar 2) [1, 2] [2] [some (V.ref l), none, none] H (fun v H1 => rSetS _ [v] H1 fun v2 H2 => rSrtS _ [v2] H2 fun v3 H3 => Q v3 H3)
    refine body H (Ex.refl H) _ fun l2 H1 n1 e1 h1 => ?_
    refine ⟨l2, allNames cs, rfl, SqL.of h1, few, fun p np => ?_⟩
    refine ⟨p, putL (allNames cs), rfl, upd_same, putL_nd _, Nat.lt_of_le_of_lt (putL_len _) (by omega), fun ss r perm srt nr => ?_⟩
    have e2 : Ex H1 (upd (upd H1 p (SetSO P w p (putL (allNames cs)))) r (.lst (ss.map V.str))) := (Ex.new np).trans (Ex.new nr)
    exact q _ r ss (e1.trans e2) (fresh_back e1 (fresh_back (Ex.new np) nr)) perm srt upd_same
end
section
open Evl
def spChn (C CT : Addr) : Sp := fun vs H Q E => ∃ (l : Addr) (cs : List (Addr × List Str)), vs = [.ref l] ∧ H l = some (.lst (cs.map fun c => V.ref c.1)) ∧ ClsAt C H cs ∧ (allNames cs).length + 1 < 4096 ∧
  ((putL (allNames cs)).length ≤ 12 → ∀ H', Ex H H' → Q .non H') ∧ (12 < (putL (allNames cs)).length → ∀ H' d, Ex H H' → H' d = some (.xd [("limit", .int 12)]) → E (.ref CT) (some d) H')
theorem ok_check_names (T : Txt P K mg) : FnOk P w K mg base (L2N.CX P w) 8 T.f__check_names T.d__check_names ["clauses"] (spChn T.C_Clause T.C_TooMany) := by
  refine T.F__check_names.okN sc__check_names (fun vs H Q E h => ?_) (fun cdv A outer s H vs Q E hr h => ?_)
  · obtain ⟨a, cs, rfl, _⟩ := h
    rfl
  · obtain ⟨l, cs, rfl, hl, hc, few, good, bad⟩ := h
    obtain ⟨u0, V0⟩ := T.V_Book_NAMES
    refine ⟨_, (pss_one (ps_if (pt_cmpR op_gt (pe_callB call_len_seq (by rfl) T.n_len PySem.boot_len (pa_cons (pe_call (ok_names_in T) (hr.mono (by decide)) rfl T.g__names_in T.F__names_in.kp T.b__names_in .nil pass0 (pa_cons (pv 0) pa_nil)) pa_nil)) (ClX.pe_cval (pe_glob (v := .ref T.C_Book) rfl T.g_Book rfl)) (nomark _))
      (pss_one (L2N.ps_raise rfl (L2N.takes_of rfl rfl rfl rfl) (pmk1 T.E_TooMany rfl fld_limit T.o_TooMany hr (pa_cons (ClX.pe_cval (pe_glob (v := .ref T.C_Book) rfl T.g_Book rfl)) pa_nil) rfl (by decide)))) pss_nil)), ?_⟩
    refine ⟨_, rfl, l, cs, rfl, hl, hc, few, fun H1 p ss e1 np pm srt hp => ?_⟩
    have hlen : (ss.map V.str).length = (putL (allNames cs)).length := by rw [List.length_map, pm.length_eq]
    refine ⟨p, _, rfl, .inl (SqL.of hp), T.C_Book, .type "type", .int 12, u0, rfl, T.R_Book, V0, _, _, rfl, rfl, _, rfl, ite2 (fun big => ?_) (fun big => ?_)⟩
    · have big2 : 12 < (putL (allNames cs)).length := by
        have z := of_decide_eq_true big
        rw [hlen] at z
        omega
      refine ⟨T.C_Book, .type "type", .int 12, u0, rfl, T.R_Book, V0, _, rfl, fun u hu => ?_, fun d nd => bad big2 _ d (e1.trans (Ex.new nd)) upd_same⟩
      obtain ⟨tk, rfl⟩ := hu
      exact msg_ci fld_limit (by decide) (by decide) (by decide)
    · have big2 : (putL (allNames cs)).length ≤ 12 := Nat.le_of_not_lt fun h => big (decide_eq_true (by rw [hlen]; omega))
      exact good big2 H1 e1
end
section
open Evl
/-- _check_room(placed, clause), room or not -/
def spRoomG (C CT : Addr) : Sp := fun vs H Q E => ∃ (d a : Addr) (D : List Str) (ps : List (Key × Addr × List Str)), vs = [.ref d, .ref a] ∧ H d = some (.dK (ps.map fun p => (p.1, V.ref p.2.1))) ∧ ClsAt C H (ps.map (·.2) ++ [(a, D)]) ∧ ps.length ≤ 1000 ∧
  (allNames (ps.map (·.2) ++ [(a, D)])).length + 1 < 4096 ∧ (24 ≤ ps.length → ∀ H' x, Ex H H' → H' x = some (.xd [("limit", .int 24)]) → E (.ref CT) (some x) H') ∧
  (ps.length < 24 → 12 < (putL (allNames (ps.map (·.2) ++ [(a, D)]))).length → ∀ H' x, Ex H H' → H' x = some (.xd [("limit", .int 12)]) → E (.ref CT) (some x) H') ∧
  (ps.length < 24 → (putL (allNames (ps.map (·.2) ++ [(a, D)]))).length ≤ 12 → ∀ H', Ex H H' → Q .non H')
theorem okG_check_room (T : Txt P K mg) : FnOk P w K mg base (L2N.CX P w) 9 T.f__check_room T.d__check_room ["placed", "clause"] (spRoomG T.C_Clause T.C_TooMany) := by
  refine T.F__check_room.okN sc__check_room (fun vs H Q E h => ?_) (fun cdv A outer s H vs Q E hr h => ?_)
  · obtain ⟨d, a, D, ps, rfl, _⟩ := h
    rfl
  · obtain ⟨d, a, D, ps, rfl, hd, hc, lps, names, full, many, q⟩ := h
    obtain ⟨u0, V0⟩ := T.V_Book_LIMIT
    refine ⟨_, (pss_cons (ps_if (pt_cmpR op_ge (pe_callB call_lenD (by rfl) T.n_len PySem.boot_len (pa_cons (pv 0) pa_nil)) (ClX.pe_cval (pe_glob (v := .ref T.C_Book) rfl T.g_Book rfl)) (nomark _)) (pss_one (L2N.ps_raise rfl (L2N.takes_of rfl rfl rfl rfl) (pmk1 T.E_TooMany rfl fld_limit T.o_TooMany hr (pa_cons (ClX.pe_cval (pe_glob (v := .ref T.C_Book) rfl T.g_Book rfl)) pa_nil) rfl (by decide)))) pss_nil)
      (pss_one (ps_expr (pe_call (ok_check_names T) (hr.mono (by decide)) rfl T.g__check_names T.F__check_names.kp T.b__check_names .nil (L2N.passes_call (L2N.takes_of rfl rfl rfl rfl) (fun _ _ _ _ h => h)) (pa_cons (pe_op op_cat (pe_callTy (call_listVals rfl) (by rfl) T.n_list (by decide +kernel) (pa_cons (pe_bm0 PySem.F.plainAttrs_dict PySem.F.slot_dict_values PySem.F.type_dict_values mt_valsK (pv 0)) pa_nil)) (pe_lst (pa_cons (pv 1) pa_nil))) pa_nil))))), ?_⟩
    refine ⟨_, rfl, d, _, rfl, hd, T.C_Book, .type "type", .int 24, u0, rfl, T.R_Book, V0, _, _, rfl, rfl, _, rfl, ite2 (fun big => ?_) (fun big => ?_)⟩
    · have z := of_decide_eq_true big
      rw [List.length_map] at z
      refine ⟨T.C_Book, .type "type", .int 24, u0, rfl, T.R_Book, V0, _, rfl, fun u hu => ?_, fun x nx => full (by omega) _ x (Ex.new nx) upd_same⟩
      obtain ⟨tk, rfl⟩ := hu
      exact msg_ci fld_limit (by decide) (by decide) (by decide)
    · have few : ps.length < 24 := Nat.lt_of_not_le fun h => big (decide_eq_true (by rw [List.length_map]; omega))
      refine ⟨_, rfl, ?TY, d, _, rfl, rfl, .inl hd, fun v nv => ?_⟩
      case TY => exact .inr (.inr (.inl ⟨rfl, .inl ⟨_, hd⟩⟩))
      have e1 : Ex H (upd H v (valsO v d)) := Ex.new nv
      refine ⟨v, d, _, rfl, upd_same, .inl (e1 _ _ hd), fun l nl => ?_⟩
      have e2 := e1.trans (Ex.new (o := .lst ((ps.map fun p => (p.1, V.ref p.2.1)).map (·.2))) nl)
      refine ⟨_, rfl, (by show 1 ≤ sizeLine; rw [sizeLine_eq]; decide), fun l1 nl1 => ?_⟩
      have e3 := e2.trans (Ex.new (o := .lst [V.ref a]) nl1)
      have ne1 : l ≠ l1 := fun e => by rw [← e, upd_same] at nl1; cases nl1
      refine ⟨l, l1, _, _, rfl, rfl, (by rw [upd_ne ne1, upd_same]), upd_same, (by rw [List.length_map, List.length_map, sizeLine_eq]; show ps.length + 1 ≤ _; omega), fun l2 nl2 => ?_⟩
      have e4 := e3.trans (Ex.new (o := .lst ((ps.map fun p => (p.1, V.ref p.2.1)).map (·.2) ++ [V.ref a])) nl2)
      refine ⟨l2, ps.map (·.2) ++ [(a, D)], rfl, ?_, hc.mono e4, names, fun ok H5 e5 => q few ok _ (e4.trans e5), fun bad H5 x e5 => many few bad _ x (e4.trans e5)⟩
      rw [upd_same, List.map_append, List.map_map, List.map_map]
      rfl
end
section
open Evl
def spRoom (C CT : Addr) : Sp := fun vs H Q E => ∃ (d a : Addr) (D : List Str) (ps : List (Key × Addr × List Str)), vs = [.ref d, .ref a] ∧ H d = some (.dK (ps.map fun p => (p.1, V.ref p.2.1))) ∧ ClsAt C H (ps.map (·.2) ++ [(a, D)]) ∧ ps.length < 24 ∧
  (allNames (ps.map (·.2) ++ [(a, D)])).length + 1 < 4096 ∧ (putL (allNames (ps.map (·.2) ++ [(a, D)]))).length ≤ 12 ∧ ∀ H', Ex H H' → Q .non H'
theorem ok_check_room (T : Txt P K mg) : FnOk P w K mg base (L2N.CX P w) 9 T.f__check_room T.d__check_room ["placed", "clause"] (spRoom T.C_Clause T.C_TooMany) := by
  refine T.F__check_room.okN sc__check_room (fun vs H Q E h => ?_) (fun cdv A outer s H vs Q E hr h => ?_)
  · obtain ⟨d, a, D, ps, rfl, _⟩ := h
    rfl
  · obtain ⟨d, a, D, ps, rfl, hd, hc, few, names, room, q⟩ := h
    obtain ⟨u0, V0⟩ := T.V_Book_LIMIT
    refine ⟨_, (pss_cons (ps_if (pt_cmpR op_ge (pe_callB call_lenD (by rfl) T.n_len PySem.boot_len (pa_cons (pv 0) pa_nil)) (ClX.pe_cval (pe_glob (v := .ref T.C_Book) rfl T.g_Book rfl)) (nomark _)) (pss_one (L2N.ps_raise rfl (L2N.takes_of rfl rfl rfl rfl) (pmk1 T.E_TooMany rfl fld_limit T.o_TooMany hr (pa_cons (ClX.pe_cval (pe_glob (v := .ref T.C_Book) rfl T.g_Book rfl)) pa_nil) rfl (by decide)))) pss_nil)
      (pss_one (ps_expr (pe_call (ok_check_names T) (hr.mono (by decide)) rfl T.g__check_names T.F__check_names.kp T.b__check_names .nil (L2N.passes_call (L2N.takes_of rfl rfl rfl rfl) (fun _ _ _ _ h => h)) (pa_cons (pe_op op_cat (pe_callTy (call_listVals rfl) (by rfl) T.n_list (by decide +kernel) (pa_cons (pe_bm0 PySem.F.plainAttrs_dict PySem.F.slot_dict_values PySem.F.type_dict_values mt_valsK (pv 0)) pa_nil)) (pe_lst (pa_cons (pv 1) pa_nil))) pa_nil))))), ?_⟩
    refine ⟨_, rfl, d, _, rfl, hd, T.C_Book, .type "type", .int 24, u0, rfl, T.R_Book, V0, _, _, rfl, rfl, _, rfl, ite2 (fun big => ?_) (fun big => ?_)⟩
    · exfalso
      have z := of_decide_eq_true big
      rw [List.length_map] at z
      omega
    · refine ⟨_, rfl, ?TY, d, _, rfl, rfl, .inl hd, fun v nv => ?_⟩
      case TY => exact .inr (.inr (.inl ⟨rfl, .inl ⟨_, hd⟩⟩))
      have e1 : Ex H (upd H v (valsO v d)) := Ex.new nv
      refine ⟨v, d, _, rfl, upd_same, .inl (e1 _ _ hd), fun l nl => ?_⟩
      have e2 := e1.trans (Ex.new (o := .lst ((ps.map fun p => (p.1, V.ref p.2.1)).map (·.2))) nl)
      refine ⟨_, rfl, (by show 1 ≤ sizeLine; rw [sizeLine_eq]; decide), fun l1 nl1 => ?_⟩
      have e3 := e2.trans (Ex.new (o := .lst [V.ref a]) nl1)
      have ne1 : l ≠ l1 := fun e => by rw [← e, upd_same] at nl1; cases nl1
      refine ⟨l, l1, _, _, rfl, rfl, (by rw [upd_ne ne1, upd_same]), upd_same, (by rw [List.length_map, List.length_map, sizeLine_eq]; show ps.length + 1 ≤ _; omega), fun l2 nl2 => ?_⟩
      have e4 := e3.trans (Ex.new (o := .lst ((ps.map fun p => (p.1, V.ref p.2.1)).map (·.2) ++ [V.ref a])) nl2)
      refine ⟨l2, ps.map (·.2) ++ [(a, D)], rfl, ?_, hc.mono e4, names, fun _ H5 e5 => q _ (e4.trans e5), fun big => absurd room (by omega)⟩
      rw [upd_same, List.map_append, List.map_map, List.map_map]
      rfl
end
section
open Evl
/-! ### a book -/
abbrev Ent := Key × Addr × List Str
def dkv (ps : List Ent) : List (Key × V) := ps.map fun p => (p.1, V.ref p.2.1)
/-- a book at b: its dict d, the last number given -/
structure BkAt (C CB : Addr) (H : Hp) (b dx d : Addr) (ps : List Ent) (last : Int) : Prop where
  at_ : H b = some (.ins CB dx [("_placed", .ref d), ("_last", .int last)])
  di : H d = some (.dK (dkv ps))
  cls : ClsAt C H (ps.map (·.2))
theorem BkAt.mono {C CB : Addr} {H H' : Hp} {b dx d : Addr} {ps : List Ent} {last : Int} (h : BkAt C CB H b dx d ps last) (e : Ex H H') : BkAt C CB H' b dx d ps last := ⟨e _ _ h.at_, e _ _ h.di, h.cls.mono e⟩
/-- next_number -/
def spNext (CB : Addr) : Sp := fun vs H Q _ => ∃ (b dx d : Addr) (last : Int), vs = [.ref b] ∧ H b = some (.ins CB dx [("_placed", .ref d), ("_last", .int last)]) ∧ ∀ H', Ex H H' → Q (.int (last + 1)) H'
theorem ok_Book_next_number (T : Txt P K mg) : FnOk P w K mg base CX0 1 T.f_Book_next_number T.d_Book_next_number ["self"] (spNext T.C_Book) := by
  refine T.F_Book_next_number.ok sc_Book_next_number (fun vs H Q E h => ?_) (fun cdv A outer s H vs Q E hr h => ?_)
  · obtain ⟨b, dx, d, last, rfl, _⟩ := h
    rfl
  · obtain ⟨b, dx, d, last, rfl, hb, q⟩ := h
    refine ⟨_, (pss_one (ps_ret (pe_op op_add (pe_fld (pv 0) rfl) pe_int))), ?_⟩
    exact s_ret (ev_op (ev_fld (ev_var rfl) hb T.cl_Book T.na_Book__last rfl) ev_c (fun H1 e1 Q q => ⟨_, _, rfl, rfl, q H1 (Ex.refl H1)⟩)) fun H1 e1 => q H1 e1
/-- len(d), read -/
theorem call_lenRd {X : Cx} : CallR X (.builtin "len") (fun xs H Q => ∃ a kvs, xs = [V.ref a] ∧ Rd H a (.dK kvs) ∧ Q (.int kvs.length) H) := by
  intro pins s σ H xs us Q I r h
  obtain ⟨a, kvs, rfl, ha, q⟩ := h
  obtain ⟨u, rfl, ru⟩ := r.one
  cases ru
  exact d_len I ha fun t s' I' => ⟨.int kvs.length, H, I', ⟨t, rfl⟩, q⟩
def spBLen (CB : Addr) : Sp := fun vs H Q _ => ∃ (b dx d : Addr) (last : Int) (kvs : List (Key × V)), vs = [.ref b] ∧ H b = some (.ins CB dx [("_placed", .ref d), ("_last", .int last)]) ∧ Rd H d (.dK kvs) ∧ ∀ H', Ex H H' → Q (.int (kvs.length : Int)) H'
theorem ok_Book_len (T : Txt P K mg) : FnOk P w K mg base CX0 1 T.f_Book_len T.d_Book_len ["self"] (spBLen T.C_Book) := by
  refine T.F_Book_len.ok sc_Book_len (fun vs H Q E h => ?_) (fun cdv A outer s H vs Q E hr h => ?_)
  · obtain ⟨b, dx, d, last, kvs, rfl, _⟩ := h
    rfl
  · obtain ⟨b, dx, d, last, kvs, rfl, hb, hd, q⟩ := h
    refine ⟨_, (pss_one (ps_ret (pe_callB call_lenRd (by rfl) T.n_len PySem.boot_len (pa_cons (pe_fld (pv 0) rfl) pa_nil)))), ?_⟩
    exact ⟨_, rfl, b, T.C_Book, dx, _, .ref d, rfl, hb, T.cl_Book, T.na_Book__placed, rfl, d, kvs, rfl, hd, q H (Ex.refl H)⟩
/-- iter(book), its dict locked -/
def spBIter (CB : Addr) : Sp := fun vs H Q _ => ∃ (b dx d : Addr) (last : Int) (o : Obj) (kvs : List (Key × V)), vs = [.ref b] ∧ H b = some (.ins CB dx [("_placed", .ref d), ("_last", .int last)]) ∧ H d = some (.frz o (.dK kvs)) ∧
  ∀ it es ep, o.data = .dict es ep → H it = none → Q (.ref it) (upd H it (KItO d it 0 kvs.length ep))
theorem ok_Book_iter (T : Txt P K mg) : FnOk P w K mg base CX0 1 T.f_Book_iter T.d_Book_iter ["self"] (spBIter T.C_Book) := by
  refine T.F_Book_iter.ok sc_Book_iter (fun vs H Q E h => ?_) (fun cdv A outer s H vs Q E hr h => ?_)
  · obtain ⟨b, dx, d, last, o, kvs, rfl, _⟩ := h
    rfl
  · obtain ⟨b, dx, d, last, o, kvs, rfl, hb, hd, q⟩ := h
    refine ⟨_, (pss_one (ps_ret (pe_callB call_iterD (by rfl) T.n_iter (by decide +kernel) (pa_cons (pe_fld (pv 0) rfl) pa_nil)))), ?_⟩
    exact ⟨_, rfl, b, T.C_Book, dx, _, .ref d, rfl, hb, T.cl_Book, T.na_Book__placed, rfl, d, o, kvs, rfl, hd, q⟩
theorem lt_u1 {n k : Nat} (h : n + 16 * k + 200 < cLine) : n + 1 < cLine := by omega
theorem rd_ex {H H' : Hp} {a : Addr} {u : HO} (e : Ex H H') (r : Rd H a u) : Rd H' a u := by
  rcases r with r | ⟨o, r⟩
  · exact .inl (e _ _ r)
  · exact .inr ⟨o, e _ _ r⟩
/-- n in book -/
def spBIn (CB : Addr) : Sp := fun vs H Q _ => ∃ (b dx d : Addr) (last n : Int) (kvs : List (Key × V)), vs = [.ref b, .int n] ∧ H b = some (.ins CB dx [("_placed", .ref d), ("_last", .int last)]) ∧ Rd H d (.dK kvs) ∧ ∀ H', Ex H H' → Q (.bl (valV kvs (.inl n)).isSome) H'
theorem ok_Book_contains (T : Txt P K mg) : FnOk P w K mg base CX0 1 T.f_Book_contains T.d_Book_contains ["self", "x"] (spBIn T.C_Book) := by
  refine T.F_Book_contains.ok sc_Book_contains (fun vs H Q E h => ?_) (fun cdv A outer s H vs Q E hr h => ?_)
  · obtain ⟨b, dx, d, last, n, kvs, rfl, _⟩ := h
    rfl
  · obtain ⟨b, dx, d, last, n, kvs, rfl, hb, hd, q⟩ := h
    have hu := hr.un
    refine ⟨_, (pss_one (ps_ret (pe_and (pe_callB call_isi (by rfl) T.n_isinstance (by decide +kernel) (pa_cons (pv 1) (pa_cons (pe_bltn (v := .ty "int") (u := .type "int") (by rfl) T.n_int (by decide +kernel) rfl) pa_nil)))
      (pe_and (pe_not (pe_callB call_isi (by rfl) T.n_isinstance (by decide +kernel) (pa_cons (pv 1) (pa_cons (pe_bltn (v := .ty "bool") (u := .type "bool") (by rfl) T.n_bool (by decide +kernel) rfl) pa_nil)))) (pe_one (pe_cmp (pc_din (by exact lt_u1 (k := 0) hu) (pv 1) (pe_fld (pv 0) rfl)))))))), ?_⟩
    have k1 : kitB "int" "int" = some true := by decide +kernel
    have k2 : kitB "int" "bool" = some false := by decide +kernel
    refine s_ret (v := .bl (valV kvs (.inl n)).isSome) (ev_is (ev_andV (a := true) (b := (valV kvs (.inl n)).isSome) (ev_isi (ev_var rfl) (fun _ => .base (.int n)) k1) (fun _ => ev_is (ev_andV (a := true) (b := (valV kvs (.inl n)).isSome) (ev_is (ev_notV (a := false) (ev_isi (ev_var rfl) (fun _ => .base (.int n)) k2)) rfl) (fun _ H1 e1 Q' q' => ?_)) (by simp))) (by simp)) fun H1 e1 => q H1 e1
    refine ⟨_, rfl, _, rfl, b, T.C_Book, dx, _, .ref d, rfl, e1 _ _ hb, T.cl_Book, T.na_Book__placed, rfl, d, _, rfl, ?_, q' H1 (Ex.refl H1)⟩
    exact .inl ⟨kvs, .inl n, rd_ex e1 hd, rfl, rfl⟩
/-- the number can be written -/
structure ITxt (n : Int) : Prop where
  lg : n.natAbs.log2 < 1920
  ln : (toString n : Str).length ≤ 1000
/-- book[n] -/
def spBGet (CB CN : Addr) : Sp := fun vs H Q E => ∃ (b dx d : Addr) (last n : Int) (kvs : List (Key × V)), vs = [.ref b, .int n] ∧ ITxt n ∧ H b = some (.ins CB dx [("_placed", .ref d), ("_last", .int last)]) ∧ Rd H d (.dK kvs) ∧
  (∀ v, valV kvs (.inl n) = some v → ∀ H', Ex H H' → Q v H') ∧ (valV kvs (.inl n) = none → ∀ H' x, Ex H H' → H' x = some (.xd [("number", .int n)]) → E (.ref CN) (some x) H')
theorem ok_Book_getitem (T : Txt P K mg) : FnOk P w K mg base (L2N.CX P w) 3 T.f_Book_getitem T.d_Book_getitem ["self", "at"] (spBGet T.C_Book T.C_NoClause) := by
  refine T.F_Book_getitem.okN sc_Book_getitem (fun vs H Q E h => ?_) (fun cdv A outer s H vs Q E hr h => ?_)
  · obtain ⟨b, dx, d, last, n, kvs, rfl, _⟩ := h
    rfl
  · obtain ⟨b, dx, d, last, n, kvs, rfl, tx, hb, hd, good, bad⟩ := h
    have hu := hr.un
    refine ⟨_, (pss_cons (ps_if (pt_cmpR (op_niO T.m_Book_contains T.i_Book_contains (ok_Book_contains T) (hr.mono (by decide)) T.b_Book_contains pass0) (pv 1) (pv 0) (by rfl)) (pss_one (L2N.ps_raise rfl (L2N.takes_of rfl rfl rfl rfl) (pmk1 T.E_NoClause rfl fld_number T.o_NoClause hr (pa_cons (pv 1) pa_nil) rfl (by decide)))) pss_nil)
      (pss_one (ps_ret (pe_dget (by exact lt_u1 (k := 2) hu) (pe_fld (pv 0) rfl) (pv 1) (fun _ _ => rfl))))), ?_⟩
    refine ⟨_, rfl, _, rfl, b, dx, _, rfl, hb, b, dx, d, last, n, kvs, rfl, hb, hd, fun H1 e1 => ⟨_, rfl, _, rfl, ?_⟩⟩
    cases hv : valV kvs (.inl n) with
    | none =>
      refine iteT ?_
      refine ⟨_, rfl, _, rfl, fun u hu => ?_, fun x nx => bad hv _ x (e1.trans (Ex.new nx)) upd_same⟩
      obtain ⟨tk, rfl⟩ := hu
      exact msg_ci fld_number (by decide) tx.lg tx.ln
    | some v =>
      refine iteF ?_
      exact ⟨_, rfl, b, T.C_Book, dx, _, .ref d, rfl, e1 _ _ hb, T.cl_Book, T.na_Book__placed, rfl, _, rfl, d, v, rfl, .inl ⟨kvs, .inl n, rd_ex e1 hd, rfl, hv.symm⟩, good v hv H1 e1⟩
/-- book.names -/
def spBNames (C CB : Addr) : Sp := fun vs H Q _ => ∃ (b dx d : Addr) (ps : List Ent) (last : Int), vs = [.ref b] ∧ BkAt C CB H b dx d ps last ∧ (allNames (ps.map (·.2))).length + 1 < 4096 ∧
  ∀ H' p ss, Ex H H' → H p = none → ss.Perm (putL (allNames (ps.map (·.2)))) → sortedS ss = true → H' p = some (.tup (ss.map V.str)) → Q (.ref p) H'
theorem ok_Book_names (T : Txt P K mg) : FnOk P w K mg base CX0 8 T.f_Book_names T.d_Book_names ["self"] (spBNames T.C_Clause T.C_Book) := by
  refine T.F_Book_names.ok sc_Book_names (fun vs H Q E h => ?_) (fun cdv A outer s H vs Q E hr h => ?_)
  · obtain ⟨b, dx, d, ps, last, rfl, _⟩ := h
    rfl
  · obtain ⟨b, dx, d, ps, last, rfl, ⟨hb, hd, hc⟩, few, q⟩ := h
    refine ⟨_, (pss_one (ps_ret (pe_callTy call_tuple_of (by rfl) T.n_tuple (by decide +kernel) (pa_cons (pe_call (ok_names_in T) (hr.mono (by decide)) rfl T.g__names_in T.F__names_in.kp T.b__names_in .nil pass0 (pa_cons (pe_callTy (call_listVals rfl) (by rfl) T.n_list (by decide +kernel) (pa_cons (pe_bm0 PySem.F.plainAttrs_dict PySem.F.slot_dict_values PySem.F.type_dict_values mt_valsK (pe_fld (pv 0) rfl)) pa_nil)) pa_nil)) pa_nil)))), ?_⟩
    refine ⟨_, rfl, b, T.C_Book, dx, _, .ref d, rfl, hb, T.cl_Book, T.na_Book__placed, rfl, ?TY, d, _, rfl, rfl, .inl hd, fun v nv => ?_⟩
    case TY => exact .inr (.inr (.inl ⟨rfl, .inl ⟨_, hd⟩⟩))
    have e1 : Ex H (upd H v (valsO v d)) := Ex.new nv
    refine ⟨v, d, _, rfl, upd_same, .inl (e1 _ _ hd), fun l nl => ?_⟩
    have e2 := e1.trans (Ex.new (o := .lst ((dkv ps).map (·.2))) nl)
    refine ⟨l, ps.map (·.2), rfl, ?_, hc.mono e2, few, fun H3 p ss e3 np pm srt hp => ?_⟩
    · rw [upd_same]
      unfold dkv
      rw [List.map_map, List.map_map]
      rfl
    · refine ⟨p, _, rfl, .inl ⟨SqL.of hp, fun t nt => ?_⟩⟩
      have e4 := (e2.trans e3).trans (Ex.new (o := .tup (ss.map V.str)) nt)
      exact q _ t ss e4 (fresh_back (e2.trans e3) nt) pm srt upd_same
end
section
open Evl
/-- _placed_from_one(()) -/
def spP1 : Sp := fun vs H Q _ => ∃ t : Addr, vs = [.ref t] ∧ H t = some (.tup []) ∧ ∀ H' p, Ex H H' → H p = none → H' p = some (.dK []) → Q (.ref p) H'
theorem ok_placed_from_one (T : Txt P K mg) : FnOk P w K mg base (L2N.CX P w) 10 T.f__placed_from_one T.d__placed_from_one ["clauses"] spP1 := by
  refine T.F__placed_from_one.okN sc__placed_from_one (fun vs H Q E h => ?_) (fun cdv A outer s H vs Q E hr h => ?_)
  · obtain ⟨t, rfl, _⟩ := h
    rfl
  · obtain ⟨t, rfl, ht, q⟩ := h
    have hu := hr.un
    refine ⟨_, (pss_cons (ps_set (i := 1) sc__placed_from_one.nd rfl (.inl rfl) pe_dnewK)
      (pss_cons (ps_for PassesOwn.leaving rfl (pi_enumS (by rfl) T.n_enumerate (pa_cons (pv 0) pa_nil) (pk_cons pe_int pk_nil)) (pg_tup rfl (pgs_cons (pg_name (i := 2) sc__placed_from_one.nd rfl (.inl rfl)) (pgs_cons (pg_name (i := 3) sc__placed_from_one.nd rfl (.inl rfl)) pgs_nil)))
        (pss_cons (ps_expr (pe_call (ok_check_room T) (hr.mono (by decide)) rfl T.g__check_room T.F__check_room.kp T.b__check_room .nil (L2N.passes_call (L2N.takes_of rfl rfl rfl rfl) (fun _ _ _ _ h => h)) (pa_cons (pv 1) (pa_cons (pv 3) pa_nil))))
        (pss_one (ps_dput (by exact lt_u1 (k := 9) hu) (pv 1) (pv 2) (pv 3) rfl))))
      (pss_one (ps_ret (pv 1))))), ?_⟩
    intro p np
    have e1 : Ex H (upd H p (.dK [])) := Ex.new np
    refine ⟨_, rfl, t, [], 1, rfl, rfl, by decide, by decide, st_of (e1 _ _ ht), ?_⟩
    refine for_it (walk_enumS (K := K) (xs := [])) (fun i σ H' => σ = [some (V.ref t), some (.ref p), none, none] ∧ H' = upd H p (.dK [])) ⟨rfl, rfl⟩ (fun i σ H' _ h => by rw [h.2]; exact st_of (e1 _ _ ht)) (fun i x σ H1 H2 hi => absurd hi (by show ¬ i < 0; omega)) ?_
    rintro σ H' ⟨rfl, rfl⟩
    exact ⟨_, rfl, q _ p e1 np upd_same⟩
/-- Book.__init__(self) -/
def spBk0 (CB : Addr) : Sp := fun vs H Q E => ∃ (x dx t : Addr), vs = [.ref x, .ref t] ∧ H x = some (.ins CB dx []) ∧ H t = some (.tup []) ∧
  ∀ H' d, (∀ c o, c ≠ x → H c = some o → H' c = some o) → H d = none → H' x = some (.ins CB dx [("_placed", .ref d), ("_last", .int 0)]) → H' d = some (.dK []) → Q .non H'
theorem okR_Book_init (T : Txt P K mg) : FnR P w K mg base (L2N.CX P w) 11 T.f_Book_init (fun vs H Q E => ∃ ws rest, vs = ws ++ rest ∧ ws.length = ["self"].length ∧ rest.length ≤ sizeLine ∧ ∀ p, H p = none → spBk0 T.C_Book (ws ++ [V.ref p]) (upd H p (.tup rest)) Q E) := by
  refine T.F_Book_init.okStar (ps := ["self"]) sc_Book_init (fun kV doc pm an cdv ct => StX.bind_star1 (B := fun us => bindArgs (PySem.W.fnOf "__init__" "Book.__init__" (defArgs s_Book_init) (defBody s_Book_init) (defScope s_Book_init) .none kV doc pm an cdv ct) ⟨us, []⟩) (p1 := "self") (pv := "clauses") (fun a => rfl) (fun a r rs => rfl)) (fun cdv A outer s H vs Q E hr h => ?_)
  obtain ⟨x, dx, t, rfl, hx, ht, q⟩ := h
  refine ⟨_, (pss_cons (ps_fld (pv 0) (pe_call (ok_placed_from_one T) (hr.mono (by decide)) rfl T.g__placed_from_one T.F__placed_from_one.kp T.b__placed_from_one .nil (L2N.passes_call (L2N.takes_of rfl rfl rfl rfl) (fun _ _ _ _ h => h)) (pa_cons (pv 1) pa_nil)) rfl)
    (pss_one (ps_fld (pv 0) (pe_callB call_len_seq (by rfl) T.n_len PySem.boot_len (pa_cons (pv 1) pa_nil)) rfl))), ?_⟩
  refine ⟨_, rfl, t, rfl, ht, fun H1 d e1 nd hd => ?_⟩
  have hx1 := e1 _ _ hx
  have xd : d ≠ x := fun e => by rw [e, hx] at nd; cases nd
  have xt : t ≠ x := fun e => by rw [e, hx] at ht; cases ht
  refine ⟨.ref x, rfl, x, T.C_Book, dx, _, rfl, hx1, T.cl_Book, T.na_Book__placed, (by show 0 < 1000; decide), ?_⟩
  have ht2 : (upd H1 x (.ins T.C_Book dx (putF "_placed" (.ref d) []))) t = some (.tup []) := by rw [upd_ne xt]; exact e1 _ _ ht
  refine ⟨_, rfl, t, _, rfl, .inr (st_of ht2), .ref x, rfl, x, T.C_Book, dx, _, rfl, upd_same, T.cl_Book, T.na_Book__last, (by show 1 < 1000; decide), ?_⟩
  rw [upd_upd]
  refine q _ d (fun c o nc hc => ?_) nd upd_same (by rw [upd_ne xd]; exact hd)
  rw [upd_ne nc]
  exact e1 _ _ hc
end
section
open Evl
theorem valV_none {k : Key} : ∀ {kvs : List (Key × V)}, k ∉ kvs.map (·.1) → valV kvs k = none
  | [], _ => rfl
  | p :: r, h => by
    rw [List.map_cons, List.mem_cons, not_or] at h
    rw [valV_neg (fun e => h.1 e.symm)]
    exact valV_none h.2
theorem dkv_keys (ps : List Ent) : (dkv ps).map (·.1) = ps.map (·.1) := by unfold dkv; rw [List.map_map]; rfl
theorem dkv_app (ps qs : List Ent) : dkv (ps ++ qs) = dkv ps ++ dkv qs := by unfold dkv; rw [List.map_append]
abbrev bkF (d : Addr) (n : Int) : List (Str × V) := [("_placed", .ref d), ("_last", .int n)]
end
section
open Evl
theorem getB (T : Txt P K mg) : GetO K T.C_Book T.f_Book_getitem := ⟨T.m_Book_getitem, by
  obtain ⟨⟨_, _, _, _, _, _, _, _, _, _, lk, _⟩, _⟩ := T.F_Book_getitem
  unfold PySem.W.fnIn
  rw [lk], T.i_Book_getitem⟩
theorem valV_at : ∀ {ps : List Ent} {p : Ent}, (ps.map (·.1)).Nodup → p ∈ ps → valV (dkv ps) p.1 = some (.ref p.2.1)
  | q :: r, p, nd, h => by
    rw [List.map_cons, List.nodup_cons] at nd
    rcases List.mem_cons.mp h with e | e
    · rw [e]; exact valV_pos rfl
    · have ne : ¬ q.1 = p.1 := fun z => nd.1 (List.mem_map.mpr ⟨p, e, z.symm⟩)
      have z := valV_at nd.2 e
      show valV ((q.1, V.ref q.2.1) :: dkv r) p.1 = _
      rw [valV_neg ne]; exact z
/-- what is locked is read, and opened again -/
theorem ex_unlock {H H' : Hp} {d : Addr} {u f : HO} (hd : H d = some u) (e : Ex (upd H d f) H') : Ex H (upd H' d u) := fun c o h => by
  by_cases hc : c = d
  · rw [hc, hd] at h
    rw [hc, upd_same]
    exact h
  · rw [upd_ne hc]
    exact e c o (by rw [upd_ne hc]; exact h)
end
section
open Evl
theorem mkBk (T : Txt P K mg) : Mk K T.C_Book T.f_Book_init := ⟨T.mi_Book, T.m_Book_init, T.i_Book_init, T.kc_Book⟩
/-- book_of(placed, last) -/
def spBookOf (CB : Addr) : Sp := fun vs H Q _ => ∃ (d : Addr) (last : Int), vs = [.ref d, .int last] ∧ ∀ H' b dx, Ex H H' → H b = none → H' b = some (.ins CB dx (bkF d last)) → Q (.ref b) H'
theorem ok_book_of (T : Txt P K mg) : FnOk P w K mg base CX0 13 T.f_book_of T.d_book_of ["placed", "last"] (spBookOf T.C_Book) := by
  refine T.F_book_of.ok sc_book_of (fun vs H Q E h => ?_) (fun cdv A outer s H vs Q E hr h => ?_)
  · obtain ⟨d, last, rfl, _⟩ := h
    rfl
  · obtain ⟨d, last, rfl, q⟩ := h
    refine ⟨_, (pss_cons (ps_set (i := 2) sc_book_of.nd rfl (.inl rfl) (pe_makeR0 (mkBk T) (okR_Book_init T) (hr.mono (by decide)) rfl T.g_Book passN0))
      (pss_cons (ps_fld (pv 2) (pv 0) rfl)
      (pss_cons (ps_fld (pv 2) (pv 1) rfl)
      (pss_one (ps_ret (pv 2)))))), ?_⟩
    intro b dx nb ndx dxb
    refine ⟨[.ref b], [], rfl, rfl, (by show 0 ≤ sizeLine; decide), fun p np => ⟨b, dx, p, rfl, ?_, upd_same, fun H3 d0 k3 nd3 hb3 hd3 => ⟨rfl, ?_⟩⟩⟩
    · have pb : p ≠ b := fun e => by rw [e, upd_same] at np; cases np
      rw [upd_ne (Ne.symm pb), upd_same]
    have e3 : Ex H H3 := fun c o h => by
      have c1 : c ≠ b := ne_of_none h nb
      have c2 : c ≠ dx := ne_of_none h ndx
      have h3 : (upd (upd H dx (.own b)) b (.ins T.C_Book dx [])) c = some o := by rw [upd_ne c1, upd_ne c2]; exact h
      exact k3 c o c1 (by rw [upd_ne (ne_of_none h3 np)]; exact h3)
    refine ⟨_, rfl, _, rfl, b, T.C_Book, dx, _, rfl, hb3, T.cl_Book, T.na_Book__placed, (by show 2 < 1000; decide), ?_⟩
    refine ⟨_, rfl, _, rfl, b, T.C_Book, dx, _, rfl, upd_same, T.cl_Book, T.na_Book__last, (by show 2 < 1000; decide), ?_⟩
    rw [upd_upd]
    refine ⟨_, rfl, q _ b dx ((e3).mut nb) nb upd_same⟩
end
section
open Evl
theorem dkv_len (ps : List Ent) : (dkv ps).length = ps.length := by unfold dkv; rw [List.length_map]
theorem dkv_kV {ps : List Ent} {ns : List Int} (hk : ps.map (·.1) = ns.map Sum.inl) : ((dkv ps).map fun kv => kV kv.1) = ns.map V.int := by
  have e : ((dkv ps).map fun kv => kV kv.1) = (ps.map (·.1)).map kV := by
    unfold dkv
    rw [List.map_map, List.map_map]
    rfl
  rw [e, hk, List.map_map]
  rfl
section
variable {C CB CN : Addr} {σ : L2.St} {H : Hp} {te ta tb : TE} {b dx d : Addr} {ps : List Ent} {last : Int} {ns : List Int}
/-- list(book), its dict locked meanwhile -/
theorem el_listB {i : Nat} (h : σ[i]? = some (some (.ref b))) (B : BkAt C CB H b dx d ps last) (hk : ps.map (·.1) = ns.map Sum.inl) (few : ps.length < 1000) : EvL (tLockE (tCB (rListOd CB (spBIter CB) (spBLen CB)) (tCons (tVar i) tNil))) σ H (ns.map V.int) := fun H1 e1 Q q => by
  obtain ⟨hb, hd, _⟩ := B.mono e1
  have db : d ≠ b := fun e => by rw [e, hb] at hd; cases hd
  refine ⟨d, _, hd, True.intro, fun od => ?_⟩
  have hb2 : (upd H1 d (.frz od (.dK (dkv ps)))) b = some (.ins CB dx (bkF d last)) := by rw [upd_ne (Ne.symm db)]; exact hb
  have hd2 : (upd H1 d (.frz od (.dK (dkv ps)))) d = some (.frz od (.dK (dkv ps))) := upd_same
  generalize hH2 : upd H1 d (.frz od (.dK (dkv ps))) = H2 at hb2 hd2 ⊢
  refine ⟨_, h, b, dx, _, rfl, hb2, fun qa nq => ?_⟩
  have e2 : Ex H2 (upd H2 qa (.lst [])) := Ex.new nq
  refine ⟨b, dx, d, last, od, dkv ps, rfl, e2 _ _ hb2, e2 _ _ hd2, fun it es ep hdat ni => ?_⟩
  have e3 : Ex (upd H2 qa (.lst [])) (upd (upd H2 qa (.lst [])) it (KItO d it 0 (dkv ps).length ep)) := Ex.new ni
  refine ⟨it, d, od, es, ep, dkv ps, rfl, upd_same, e3 _ _ (e2 _ _ hd2), hdat, e3 _ _ (e2 _ _ hb2), e3 _ _ upd_same, by rw [dkv_len]; exact few, b, dx, d, last, dkv ps, rfl, e3 _ _ (e2 _ _ hb2), .inr ⟨od, e3 _ _ (e2 _ _ hd2)⟩, fun H5 e5 => ?_⟩
  have hd5 := e5 _ _ (e3 _ _ (e2 _ _ hd2))
  refine ⟨⟨_, rfl, by rw [dkv_len]; exact few⟩, e5 _ _ upd_same, hd5, e5 _ _ (e3 _ _ upd_same), ?_⟩
  rw [dkv_kV hk]
  have itd : it ≠ d := fun e => by rw [e, e2 _ _ hd2] at ni; cases ni
  have qd : qa ≠ d := fun e => by rw [e, hd2] at nq; cases nq
  refine ⟨by rw [upd_ne (Ne.symm qd), upd_ne (Ne.symm itd)]; exact hd5, ?_⟩
  have nq1 : H1 qa = none := by
    have z := nq
    rw [← hH2, upd_ne qd] at z
    exact z
  refine q qa _ nq1 (ex_unlock (f := .frz od (.dK (dkv ps))) hd ?_) (by rw [upd_ne qd, upd_same])
  rw [hH2]
  have ni2 : H2 it = none := fresh_back e2 ni
  exact ((((e2.trans e3).trans e5).mut ni2).mut nq)
theorem ev_lenB {E : XK} (h : Ev te σ H (.ref b)) (B : BkAt C CB H b dx d ps last) (few : ps.length < 1000) : Ev (tCB (rLenO CB (spBLen CB) E) (tCons te tNil)) σ H (.int (ps.length : Int)) :=
  ev_cb (ea_cons h ea_nil) fun H1 e Q q => by
    obtain ⟨hb, hd, _⟩ := B.mono e
    exact ⟨b, dx, _, rfl, hb, b, dx, d, last, dkv ps, rfl, hb, .inl hd, fun H2 e2 => ⟨_, rfl, by rw [dkv_len]; exact few, by rw [dkv_len]; exact q H2 e2⟩⟩
theorem ev_prop {Cc : Addr} {sp : Sp} {E : XK} {a dx : Addr} {fs : List (Str × V)} {v : V} (h : Ev te σ H (.ref a)) (ha : H a = some (.ins Cc dx fs)) (hs : SpV sp [.ref a] H v) : Ev (tProp Cc sp [] E te) σ H v := fun H1 e1 Q q =>
  h H1 e1 _ fun H2 e2 => ⟨a, dx, fs, rfl, e2 _ _ (e1 _ _ ha), hs H2 (e1.trans e2) Q (fun H3 e3 => q H3 (e2.trans e3)) E⟩
theorem ev_nextB {E : XK} (h : Ev te σ H (.ref b)) (B : BkAt C CB H b dx d ps last) : Ev (tProp CB (spNext CB) [] E te) σ H (.int (last + 1)) :=
  ev_prop h B.at_ fun H1 e1 Q q E => ⟨b, dx, d, last, rfl, (B.mono e1).at_, q⟩
theorem eu_namesB {E : XK} {N : List Str} (h : Ev te σ H (.ref b)) (B : BkAt C CB H b dx d ps last) (few : (allNames (ps.map (·.2))).length + 1 < 4096) (od : Ord (allNames (ps.map (·.2))) N) : EvU (tProp CB (spBNames C CB) [] E te) σ H (N.map V.str) := fun H1 e1 Q q =>
  h H1 e1 _ fun H2 e2 => ⟨b, dx, _, rfl, (B.mono (e1.trans e2)).at_, b, dx, d, ps, last, rfl, B.mono (e1.trans e2), few, fun H3 p ss e3 np pm so hp => by
    rw [(srt_ord pm so).uniq od fun _ => Iff.rfl] at hp
    exact q p H3 (fresh_back e2 np) (e2.trans e3) hp⟩
theorem ev_getB {n : Int} {p : Ent} (h1 : Ev ta σ H (.ref b)) (h2 : Ev tb σ H (.int n)) (tx : ITxt n) (B : BkAt C CB H b dx d ps last) (nd : (ps.map (·.1)).Nodup) (m : p ∈ ps) (e : p.1 = .inl n) : Ev (tSubO CB (spBGet CB CN) E0 ta tb) σ H (.ref p.2.1) :=
  ev_subO h1 h2 B.at_ fun H1 e1 Q q E => by
    obtain ⟨hb, hd, _⟩ := B.mono e1
    have z := valV_at nd m
    rw [e] at z
    refine ⟨b, dx, d, last, n, dkv ps, rfl, tx, hb, .inl hd, fun v hv H2 e2 => ?_, fun no => ?_⟩
    · rw [z] at hv
      cases hv
      exact q H2 e2
    · rw [z] at no; cases no
end
end
section
open Evl
/-- a pair at its address: its number, its clause -/
abbrev Pr := Addr × Int × Addr × List Str
def Pr.ent (x : Pr) : Ent := (.inl x.2.1, x.2.2)
def lastOf (prs : List Pr) : Int := match prs.getLast? with | some x => x.2.1 | none => 0
theorem lastOf_snoc (prs : List Pr) (x : Pr) : lastOf (prs ++ [x]) = x.2.1 := by unfold lastOf; rw [List.getLast?_concat]
/-- the pairs before the i-th are taken -/
def GoodTo (prs : List Pr) (i : Nat) : Prop := ∀ j, (h : j < prs.length) → j < i → lastOf (prs.take j) < prs[j].2.1 ∧ prs[j].2.1 ≤ 999 ∧ j < 24 ∧ (putL (allNames ((prs.take (j + 1)).map (·.2.2)))).length ≤ 12
def spNumbered (C CB CN CT : Addr) : Sp := fun vs H Q E => ∃ (pl : Addr) (prs : List Pr), vs = [.ref CB, .ref pl] ∧ H pl = some (.lst (prs.map fun x => V.ref x.1)) ∧ (∀ x ∈ prs, H x.1 = some (.tup [.int x.2.1, .ref x.2.2.1])) ∧ ClsAt C H (prs.map (·.2.2)) ∧ prs.length ≤ 1000 ∧ (allNames (prs.map (·.2.2))).length + 1 < 4096 ∧
  (∀ i, (hi : i < prs.length) → GoodTo prs i → ¬ (lastOf (prs.take i) < prs[i].2.1 ∧ prs[i].2.1 ≤ 999) → ITxt prs[i].2.1 ∧ ∀ H' x, Ex H H' → H' x = some (.xd [("number", .int prs[i].2.1)]) → E (.ref CN) (some x) H') ∧
  (∀ i, (hi : i < prs.length) → GoodTo prs i → lastOf (prs.take i) < prs[i].2.1 → prs[i].2.1 ≤ 999 → 24 ≤ i → ∀ H' x, Ex H H' → H' x = some (.xd [("limit", .int 24)]) → E (.ref CT) (some x) H') ∧
  (∀ i, (hi : i < prs.length) → GoodTo prs i → lastOf (prs.take i) < prs[i].2.1 → prs[i].2.1 ≤ 999 → i < 24 → 12 < (putL (allNames ((prs.take (i + 1)).map (·.2.2)))).length → ∀ H' x, Ex H H' → H' x = some (.xd [("limit", .int 12)]) → E (.ref CT) (some x) H') ∧
  (GoodTo prs prs.length → ∀ H' b dx d, Ex H H' → H b = none → H d = none → H' b = some (.ins CB dx (bkF d (lastOf prs))) → H' d = some (.dK (dkv (prs.map Pr.ent))) → Q (.ref b) H')
theorem take_snoc {α : Type} {l : List α} {i : Nat} (h : i < l.length) : l.take (i + 1) = l.take i ++ [l[i]] := by rw [List.take_add_one, List.getElem?_eq_getElem h]; rfl
theorem names_take (prs : List Pr) (i : Nat) : (allNames ((prs.take i).map (·.2.2))).length ≤ (allNames (prs.map (·.2.2))).length := by
  conv => rhs; rw [← List.take_append_drop i prs]
  unfold allNames
  rw [List.map_append, List.flatMap_append, List.length_append]
  omega
theorem okR_Book_numbered (T : Txt P K mg) : FnOk P w K mg base (L2N.CX P w) 14 T.f_Book_numbered T.d_Book_numbered ["cls", "pairs"] (spNumbered T.C_Clause T.C_Book T.C_BadNumber T.C_TooMany) := by
  refine T.F_Book_numbered.okN sc_Book_numbered (fun vs H Q E h => ?_) (fun cdv A outer s H vs Q E hr h => ?_)
  · obtain ⟨pl, prs, rfl, _⟩ := h
    rfl
  · obtain ⟨pl, prs, rfl, hpl, htup, hcl, few, names, badN, full, many, good⟩ := h
    have hu := hr.un
    obtain ⟨u0, V0⟩ := T.V_Book_NUMBERS
    refine ⟨_, (pss_cons (ps_set (i := 2) sc_Book_numbered.nd rfl (.inl rfl) pe_dnewK)
      (pss_cons (ps_set (i := 3) sc_Book_numbered.nd rfl (.inl rfl) pe_int)
      (pss_cons (ps_for PassesOwn.leaving rfl (pi_list (pv 1)) (pg_tup rfl (pgs_cons (pg_name (i := 4) sc_Book_numbered.nd rfl (.inl rfl)) (pgs_cons (pg_name (i := 5) sc_Book_numbered.nd rfl (.inl rfl)) pgs_nil)))
        (pss_cons (ps_if (pt_not (pt_chain op_lt op_le (pv 3) (pv 4) (ClX.pe_cval (pv 0)))) (pss_one (L2N.ps_raise rfl (L2N.takes_of rfl rfl rfl rfl) (pmk1 T.E_BadNumber rfl fld_number T.o_BadNumber hr (pa_cons (pv 4) pa_nil) rfl (by decide)))) pss_nil)
        (pss_cons (ps_expr (pe_call (okG_check_room T) (hr.mono (by decide)) rfl T.g__check_room T.F__check_room.kp T.b__check_room .nil (L2N.passes_call (L2N.takes_of rfl rfl rfl rfl) (fun _ _ _ _ h => h)) (pa_cons (pv 2) (pa_cons (pv 5) pa_nil))))
        (pss_cons (ps_dput (by exact lt_u1 (k := 13) hu) (pv 2) (pv 4) (pv 5) rfl)
        (pss_one (ps_set (i := 3) sc_Book_numbered.nd rfl (.inl rfl) (pv 4)))))))
      (pss_one (ps_ret (pe_call (ok_book_of T) (hr.mono (by decide)) rfl T.g_book_of T.F_book_of.kp T.b_book_of .nil pass0 (pa_cons (pv 2) (pa_cons (pv 3) pa_nil)))))))), ?_⟩
    intro p np
    have e0 : Ex H (upd H p (.dK [])) := Ex.new np
    refine ⟨_, rfl, pl, rfl, ⟨_, sq_of (e0 _ _ hpl)⟩, for_list (K := K) (xs := prs.map fun x => V.ref x.1) (fun i σ H' => ∃ v4 v5 : Option V, σ = [some (V.ref T.C_Book), some (.ref pl), some (.ref p), some (.int (lastOf (prs.take i))), v4, v5] ∧ Ex H H' ∧ H' p = some (.dK (dkv ((prs.take i).map Pr.ent))) ∧ (∀ x ∈ prs.take i, x.2.1 ≤ lastOf (prs.take i)) ∧ GoodTo prs i)
      ⟨none, none, rfl, e0, upd_same, (fun x m => by rw [List.take_zero] at m; cases m), fun j h hj => absurd hj (by omega)⟩ (fun i σ H' _ ⟨_, _, _, e, _⟩ => sq_of (e _ _ hpl)) ?_ ?_⟩
    · rintro i y σ H2 hi ⟨v4, v5, rfl, e2, hp2, le, gd⟩
      have hi2 : i < prs.length := by
        have z := (List.getElem?_eq_some_iff.mp hi).1
        rw [List.length_map] at z
        exact z
      rw [List.getElem?_map, List.getElem?_eq_getElem hi2] at hi
      obtain rfl : V.ref prs[i].1 = y := Option.some.inj hi
      have mi : prs[i] ∈ prs := List.getElem_mem hi2
      have ht := e2 _ _ (htup _ mi)
      refine ⟨prs[i].1, _, rfl, st_of ht, rfl, _, _, rfl, _, _, rfl, rfl, ?_⟩
      refine ⟨_, rfl, _, rfl, _, _, rfl, rfl, _, rfl, ite2 (fun c1 => ?_) (fun c1 => ?_)⟩
      rotate_left
      · refine ⟨_, rfl, iteT ?_⟩
        obtain ⟨tx, bad⟩ := badN i hi2 gd fun h => c1 (decide_eq_true h.1)
        refine ⟨_, rfl, _, rfl, fun u hu => ?_, fun x nx => bad _ x (e2.trans (Ex.new nx)) upd_same⟩
        obtain ⟨tk, rfl⟩ := hu
        exact msg_ci fld_number (by decide) tx.lg tx.ln
      have lt := of_decide_eq_true c1
      refine ⟨_, rfl, T.C_Book, .type "type", .int 999, u0, rfl, T.R_Book, V0, _, _, rfl, rfl, _, rfl, ?_⟩
      by_cases c2 : prs[i].2.1 ≤ 999
      rotate_left
      · rw [decide_eq_false c2]
        refine iteT ?_
        obtain ⟨tx, bad⟩ := badN i hi2 gd fun h => c2 h.2
        refine ⟨_, rfl, _, rfl, fun u hu => ?_, fun x nx => bad _ x (e2.trans (Ex.new nx)) upd_same⟩
        obtain ⟨tk, rfl⟩ := hu
        exact msg_ci fld_number (by decide) tx.lg tx.ln
      rw [decide_eq_true c2]
      refine iteF ?_
      have tk := take_snoc hi2
      have nm : ((prs.take i).map Pr.ent).map (·.2) ++ [(prs[i].2.2.1, prs[i].2.2.2)] = (prs.take (i + 1)).map (·.2.2) := by
        rw [tk, List.map_append, List.map_map]
        rfl
      refine ⟨_, rfl, _, rfl, p, prs[i].2.2.1, prs[i].2.2.2, (prs.take i).map Pr.ent, rfl, hp2, ?_, ?_, ?_, ?_, ?_, ?_⟩
      · rw [nm]
        intro c m
        obtain ⟨x, mx, rfl⟩ := List.mem_map.mp m
        exact hcl.mono e2 _ (List.mem_map.mpr ⟨x, List.mem_of_mem_take mx, rfl⟩)
      · rw [List.length_map]; have := List.length_take_le i prs; omega
      · rw [nm]; have := names_take prs (i + 1); omega
      · intro h H3 x e3
        rw [List.length_map, List.length_take] at h
        exact full i hi2 gd lt c2 (by omega) H3 x (e2.trans e3)
      · intro h1 h2 H3 x e3
        rw [nm] at h2
        rw [List.length_map, List.length_take] at h1
        exact many i hi2 gd lt c2 (by omega) h2 H3 x (e2.trans e3)
      · intro h1 h2 H3 e3
        rw [nm] at h2
        rw [List.length_map, List.length_take] at h1
        have hp3 := e3 _ _ hp2
        refine ⟨_, rfl, _, rfl, _, rfl, p, _, rfl, DPut.k (k := .inl prs[i].2.1) hp3 (by rw [dkv_len, List.length_map, sizeLine_eq]; have := List.length_take_le i prs; omega), ?_⟩
        have nk : (.inl prs[i].2.1 : Key) ∉ ((prs.take i).map Pr.ent).map (·.1) := fun h => by
          rw [List.map_map] at h
          obtain ⟨x, mx, ex⟩ := List.mem_map.mp h
          have ex2 : x.2.1 = prs[i].2.1 := Sum.inl.inj ex
          have := le x mx
          omega
        refine ⟨_, rfl, some (.int prs[i].2.1), some (.ref prs[i].2.2.1), ?_, (e2.trans e3).mut np, ?_, ?_, ?_⟩
        · rw [tk, lastOf_snoc]; rfl
        · rw [upd_same, putK_new _ (valV_none (by rw [dkv_keys]; exact nk)), tk, List.map_append, dkv_app]
          rfl
        · intro x mx
          rw [tk] at mx ⊢
          rw [lastOf_snoc]
          rcases List.mem_append.mp mx with m | m
          · have := le x m; omega
          · rw [List.mem_singleton.mp m]; omega
        · intro j hj hji
          by_cases e : j = i
          · subst e
            exact ⟨lt, c2, by omega, h2⟩
          · exact gd j hj (by omega)
    · rintro σ H2 ⟨v4, v5, rfl, e2, hp2, le, gd⟩
      rw [List.length_map] at gd
      rw [List.length_map, List.take_length] at hp2 ⊢
      refine ⟨_, rfl, _, rfl, p, _, rfl, fun H3 b dx e3 nb hb => ?_⟩
      exact good gd H3 b dx p (e2.trans e3) (fresh_back e2 nb) np hb (e3 _ _ hp2)
end
section
open Evl
theorem given_all (n : Nat) (v : Nat → V) : given n (fun _ => true) v = (List.range n).map v := by
  unfold given
  rw [List.filter_eq_self.mpr fun _ _ => rfl]
theorem SameV.ints {H : Hp} {n : Nat} {a b : Addr} {L : List Int} (ha : H a = some (.lst (L.map V.int))) (hb : H b = some (.lst (L.map V.int))) (few : L.length ≤ 100) : SameV H (n + 1) (.ref a) (.ref b) :=
  .lst ha hb rfl (by rw [List.length_map]; exact few) fun i x y hx hy => by
    rw [hx] at hy
    cases hy
    rw [List.getElem?_map] at hx
    cases c : L[i]? with
    | none => rw [c] at hx; cases hx
    | some z => rw [c] at hx; obtain rfl : V.int z = x := Option.some.inj hx; exact .flat rfl
/-- _law_names_in(rows) -/
def rowNames (rs : List (Addr × List Str)) : List Str := rs.flatMap fun x => x.2.map bare
def RowsAt (H : Hp) (rs : List (Addr × List Str)) : Prop := ∀ x ∈ rs, H x.1 = some (.lst (x.2.map V.str)) ∧ ∀ z ∈ x.2, isLit z = true
theorem RowsAt.mono {H H' : Hp} {rs : List (Addr × List Str)} (h : RowsAt H rs) (e : Ex H H') : RowsAt H' rs := fun x m => ⟨e _ _ (h x m).1, (h x m).2⟩
def spNamesIn : Sp := fun vs H Q _ => ∃ (r : Addr) (rs : List (Addr × List Str)), vs = [.ref r] ∧ H r = some (.lst (rs.map fun x => V.ref x.1)) ∧ RowsAt H rs ∧ (rowNames rs).length ≤ 150 ∧ ∀ N, Ord (rowNames rs) N → RetL (N.map V.str) H Q
theorem rowNames_take {rs : List (Addr × List Str)} (i : Nat) : (rowNames (rs.take i)).length ≤ (rowNames rs).length := by
  conv => rhs; rw [← List.take_append_drop i rs]
  unfold rowNames
  rw [List.flatMap_append, List.length_append]
  omega
theorem ok__law_names_in (T : Txt P K mg) : FnOk P w K mg base CX0 2 T.f__law_names_in T.d__law_names_in ["_law_rows"] spNamesIn := by
  refine T.F__law_names_in.ok sc__law_names_in (fun vs H Q E h => ?_) (fun cdv A outer s H vs Q E hr h => ?_)
  · obtain ⟨r, rs, rfl, _⟩ := h
    rfl
  · obtain ⟨r, rs, rfl, hr0, hrs, few, q⟩ := h
    refine ⟨_, (pss_cons (ps_set (i := 1) sc__law_names_in.nd rfl (.inl rfl) (pe_lst pa_nil))
      (pss_cons (ps_for PassesOwn.never rfl (pi_list (pv 0)) (pg_name (i := 2) sc__law_names_in.nd rfl (.inl rfl)) (pss_one (ps_set (i := 1) sc__law_names_in.nd rfl (.inl rfl) (pe_op op_cat (pv 1) (pe_lc (own := [("_law_literal", 3)]) (g := gName 3) (by rfl) sc__law_names_in.nd (pi_list (pv 2)) (blkOk_by (own := [("_law_literal", 3)]) (N := N__law_names_in) (sc := defScope s__law_names_in) (by decide +kernel)) (fun _ _ _ _ _ => pg_name (i := 3) sc__law_names_in.nd rfl (Or.inl rfl)) (fun _ _ _ _ _ => pts_nil) (fun _ _ _ _ _ => (pe_call (ok__law_name T) (hr.mono (by decide)) rfl T.g__law_name T.F__law_name.kp T.b__law_name .nil pass0 (pa_cons (pv 3) pa_nil))))))))
      (pss_one (ps_ret (pe_call (ok__law_sorted T) (hr.mono (by decide)) rfl T.g__law_sorted T.F__law_sorted.kp T.b__law_sorted .nil pass0 (pa_cons (pv 1) pa_nil)))))), ?_⟩
    refine q_asgL (xs := []) (el_lst ea_nil (by decide)) (fun p H0 np e0 hp0 => ?_)
    refine ⟨_, rfl, r, rfl, ⟨_, sq_of (e0 _ _ hr0)⟩, for_list (K := K) (xs := rs.map fun x => V.ref x.1) (fun i σ H' => ∃ (u : Addr) (v2 : Option V), σ = [some (V.ref r), some (.ref u), v2, none] ∧ Ex H H' ∧ H' u = some (.lst ((rowNames (rs.take i)).map V.str)))
      ⟨p, none, rfl, e0, hp0⟩ (fun i σ H' _ ⟨_, _, _, h, _⟩ => sq_of (h _ _ hr0)) ?_ ?_⟩
    · rintro i x σ H3 hi ⟨u, v2, rfl, e3, hu⟩
      obtain ⟨y, hy, rfl⟩ : ∃ z, rs[i]? = some z ∧ V.ref z.1 = x := by
        rw [List.getElem?_map] at hi
        cases e : rs[i]? with
        | none => rw [e] at hi; cases hi
        | some z => rw [e] at hi; exact ⟨z, rfl, Option.some.inj hi⟩
      obtain ⟨hy1, lits⟩ := hrs y (List.mem_of_getElem? hy)
      have st : rowNames (rs.take (i + 1)) = rowNames (rs.take i) ++ y.2.map bare := by
        rw [List.take_add_one, hy]
        unfold rowNames
        rw [List.flatMap_append]
        simp
      have l1 := rowNames_take (rs := rs) (i + 1)
      rw [st, List.length_append, List.length_map] at l1
      have copy : EvL (tLc (iList K (tVar 2)) (gName 3) tYes (tCall (spPure fun z => .str (bare z)) [] E0 (tCons (tVar 3) tNil)) [3]) [some (V.ref r), some (.ref u), some (.ref y.1), none] H3 ((y.2.map bare).map V.str) :=
        el_mpS (K := K) bare (ev_var rfl) (e3 _ _ hy1) (by omega) (fun _ => rfl) (fun z m H1 e1 => ev_call (ea_cons (ev_var rfl) ea_nil) fun H2 e2 Q q E => ⟨z, rfl, Nat.le_trans (lit_txt (lits z m)).1 (by decide), q⟩)
      refine s_asgL (el_cat (els_at (ev_var rfl) hu) (els_new copy) (by rw [List.length_map, List.length_map, List.length_map]; omega)) fun u2 H4 nu e4 h4 => ⟨u2, _, rfl, e3.trans e4, ?_⟩
      rw [h4, st, List.map_append]
    · rintro σ H3 ⟨u, v2, rfl, e3, hu⟩
      rw [List.length_map, List.take_length] at hu
      exact ⟨_, rfl, u, rowNames rs, rfl, hu, few, fun N od p' H4 np' e4 hp' => q N od p' H4 (fresh_back e3 np') (e3.trans e4) hp'⟩
end
section
open Evl
theorem small_itxt : ∀ k : Nat, k < 1001 → (k : Int).natAbs.log2 < 1920 ∧ (toString (k : Int) : Str).length ≤ 1000 := by decide +kernel
theorem itxt_of {n : Int} (h1 : 0 ≤ n) (h2 : n ≤ 1000) : ITxt n := by
  have z := small_itxt n.toNat (by omega)
  rw [Int.toNat_of_nonneg h1] at z
  exact ⟨z.1, z.2⟩
/-- a number, its clause, its row -/
structure Rc where
  n : Int
  a : Addr
  ra : Addr
  R : List Str
  D : List Str
def Rc.ent (e : Rc) : Ent := (.inl e.n, e.a, e.D)
/-- the law's own table -/
structure TabAt (H : Hp) (ln lr : Addr) (es : List Rc) : Prop where
  num : H ln = some (.lst ((es.map Rc.n).map V.int))
  rows : H lr = some (.lst (es.map fun e => V.ref e.ra))
  each : ∀ e ∈ es, H e.ra = some (.lst (e.R.map V.str))
theorem TabAt.mono {H H' : Hp} {ln lr : Addr} {es : List Rc} (t : TabAt H ln lr es) (e : Ex H H') : TabAt H' ln lr es := ⟨e _ _ t.num, e _ _ t.rows, fun x m => e _ _ (t.each x m)⟩
def Rc.row (e : Rc) : Addr × List Str := (e.ra, e.R)
/-- a row and the literals of its clause -/
def RowD (R D : List Str) : Prop := RowL 6 R ∧ ∃ N, Ord (R.map bare) N ∧ D = due R N
structure EsOk (es : List Rc) (last : Int) : Prop where
  asc : (es.map Rc.n).Pairwise (· < ·)
  rng : ∀ e ∈ es, 1 ≤ e.n ∧ e.n ≤ last
  row : ∀ e ∈ es, RowD e.R e.D
  few : es.length ≤ 24
  sum : (rowNames (es.map Rc.row)).length ≤ 150
  l0 : 0 ≤ last
  l9 : last ≤ 999
theorem EsOk.nd {es : List Rc} {last : Int} (o : EsOk es last) : (es.map Rc.n).Nodup := o.asc.imp fun h e => by omega
theorem Rc.keys (es : List Rc) : (es.map Rc.ent).map (·.1) = (es.map Rc.n).map Sum.inl := by
  rw [List.map_map, List.map_map]
  rfl
theorem EsOk.keyNd {es : List Rc} {last : Int} (o : EsOk es last) : ((es.map Rc.ent).map (·.1)).Nodup := by
  rw [Rc.keys]
  exact List.Pairwise.map _ (fun a b h e => h (Sum.inl.inj e)) o.nd
theorem EsOk.txt {es : List Rc} {last : Int} (o : EsOk es last) {e : Rc} (m : e ∈ es) : ITxt e.n := itxt_of (by have := o.rng e m; omega) (by have := o.rng e m; have := o.l9; omega)
theorem rowD {R D : List Str} (h : RowD R D) (z : Str) : z ∈ D ↔ z ∈ R := by
  obtain ⟨_, N, od, ed⟩ := h
  rw [ed]
  exact due_mem od z
theorem rowLen {R D : List Str} (h : RowD R D) : D.length = R.length := by
  obtain ⟨r, N, od, ed⟩ := h
  rw [ed, r.due_len od]
theorem RowD.litsOk {R D : List Str} (h : RowD R D) : LitsOk D := by
  obtain ⟨row, N, od, rfl⟩ := h
  exact ⟨by rw [row.due_len od]; exact Nat.le_trans row.few (by decide), fun z hz => ⟨row.lit z ((due_mem od z).mp hz), row.txt z ((due_mem od z).mp hz)⟩⟩
theorem allNames_ent (es : List Rc) : allNames ((es.map Rc.ent).map (·.2)) = es.flatMap fun e => e.D.map bare := by
  unfold allNames
  rw [List.map_map, List.flatMap_map]
  rfl
theorem rowNames_row (es : List Rc) : rowNames (es.map Rc.row) = es.flatMap fun e => e.R.map bare := by
  unfold rowNames
  rw [List.flatMap_map]
  rfl
theorem flat_len {α : Type} {es : List α} (f g : α → List Str) (h : ∀ e ∈ es, (f e).length = (g e).length) : (es.flatMap f).length = (es.flatMap g).length := by
  induction es with
  | nil => rfl
  | cons a r ih =>
    rw [List.flatMap_cons, List.flatMap_cons, List.length_append, List.length_append, h a List.mem_cons_self, ih fun e m => h e (List.mem_cons_of_mem _ m)]
theorem EsOk.lenD {es : List Rc} {last : Int} (o : EsOk es last) : (allNames ((es.map Rc.ent).map (·.2))).length ≤ 150 := by
  have z := o.sum
  rw [rowNames_row] at z
  have z2 : (es.flatMap fun e => e.D.map bare).length = (es.flatMap fun e => e.R.map bare).length := flat_len _ _ fun e m => by rw [List.length_map, List.length_map, rowLen (o.row e m)]
  rw [allNames_ent, z2]
  exact z
theorem EsOk.memR {es : List Rc} {last : Int} (o : EsOk es last) (x : Str) : x ∈ rowNames (es.map Rc.row) ↔ x ∈ allNames ((es.map Rc.ent).map (·.2)) := by
  rw [rowNames_row, allNames_ent, List.mem_flatMap, List.mem_flatMap]
  constructor
  · rintro ⟨e, m, h⟩
    exact ⟨e, m, (mem_bare (rowD (o.row e m)) x).mpr h⟩
  · rintro ⟨e, m, h⟩
    exact ⟨e, m, (mem_bare (rowD (o.row e m)) x).mp h⟩
theorem ev_sNIs {σ : L2.St} {H : Hp} {ta tb : TE} {n : Nat} {L : List Int} {E : XK} {r : Addr} (ha : EvL ta σ H (L.map V.int)) (hb : Ev tb σ H (.ref r)) (hr : H r = some (.lst (L.map V.int))) (few : L.length ≤ 100) : Ev (tCall (spSameN (n + 1)) [] E (tCons ta (tCons tb tNil))) σ H (.bl true) := fun H1 e1 Q q =>
  ha H1 e1 _ fun p H2 np e2 hp => hb H2 (e1.trans e2) _ fun H3 e3 => ⟨_, _, rfl, .ints (e3 _ _ hp) (e3 _ _ (e2 _ _ (e1 _ _ hr))) few, fun H4 e4 => q H4 ((e2.trans e3).trans e4)⟩
theorem ev_sNUU {σ : L2.St} {H : Hp} {ta tb : TE} {n : Nat} {L : List Str} {E : XK} (ha : EvU ta σ H (L.map V.str)) (hb : EvU tb σ H (L.map V.str)) (few : L.length ≤ 100) : Ev (tCall (spSameN (n + 1)) [] E (tCons ta (tCons tb tNil))) σ H (.bl true) := fun H1 e1 Q q =>
  ha H1 e1 _ fun p H2 np e2 hp => hb H2 (e1.trans e2) _ fun r H3 nr e3 hr => ⟨_, _, rfl, .txtT (e3 _ _ hp) hr few, fun H4 e4 => q H4 ((e2.trans e3).trans e4)⟩
end
section
open Evl
theorem sum_le : ∀ {L : List Str} {k : Nat}, (∀ z ∈ L, z.length ≤ k) → (L.map (·.length)).sum ≤ L.length * k
  | [], _, _ => by simp
  | z :: r, k, h => by
    have a := h z List.mem_cons_self
    have b := sum_le (L := r) (k := k) fun y hy => h y (List.mem_cons_of_mem _ hy)
    simp only [List.map_cons, List.sum_cons, List.length_cons]
    have e : (r.length + 1) * k = r.length * k + k := Nat.succ_mul _ _
    omega
/-- sep.join(texts) -/
theorem ev_join {σ : L2.St} {H : Hp} {te : TE} {sep : Str} {p : Addr} {L : List Str} (h : Ev te σ H (.ref p)) (hp : SqL K H p (L.map V.str) ∨ SqT K H p (L.map V.str)) (few : L.length ≤ 100) (short : ∀ z ∈ L, z.cps.size ≤ 50) (s5 : sep.length ≤ 5) :
    Ev (tBM K "str" (fun x xs H Q => ∃ a p, ∃ ys : List Str, x = .str a ∧ xs = [.ref p] ∧ (SqL K H p (ys.map V.str) ∨ SqT K H p (ys.map V.str)) ∧ (ys.map (·.length)).sum + ys.length * a.length ≤ 16777216 ∧ Q (.str (Txt.join a ys)) H) (tC (.str sep)) (tCons te tNil)) σ H (.str (Txt.join sep L)) := fun H1 e1 Q q =>
  ⟨rfl, h H1 e1 _ fun H2 e2 => ⟨sep, p, L, rfl, rfl, hp.elim (fun z => .inl (ex_l (e1.trans e2) z)) (fun z => .inr (ex_t (e1.trans e2) z)), by
    have a := sum_le (L := L) (k := 50) short
    have b : L.length * sep.length ≤ 100 * 5 := Nat.mul_le_mul few s5
    omega, q H2 e2⟩⟩
def spCStr (C : Addr) : Sp := fun vs H Q _ => ∃ (a : Addr) (D : List Str), vs = [.ref a] ∧ ClAt C H a D ∧ LitsOk D ∧ ∀ H', Ex H H' → Q (.str (ctext D)) H'
theorem ok_Clause_str (T : Txt P K mg) : FnOk P w K mg base CX0 1 T.f_Clause_str T.d_Clause_str ["self"] (spCStr T.C_Clause) := by
  refine T.F_Clause_str.ok sc_Clause_str (fun vs H Q E h => ?_) (fun cdv A outer s H vs Q E hr h => ?_)
  · obtain ⟨a, D, rfl, _⟩ := h
    rfl
  · obtain ⟨a, D, rfl, ⟨dx, p, ha, hp⟩, ⟨few, lit⟩, q⟩ := h
    refine ⟨_, (pss_cons (ps_if (pt_not (pt_truth (pe_fld (pv 0) rfl) (by intro _; rfl))) (pss_one (ps_ret pe_str)) pss_nil)
      (pss_one (ps_ret (pe_bm PySem.F.plainAttrs_str PySem.F.slot_str_join PySem.F.type_str_join mt_join pe_str (pa_cons (pe_fld (pv 0) rfl) pa_nil))))), ?_⟩
    have tr : EvT (fun σ H Q => tFld K (tVar 0) "literals" σ H fun x H' => ∃ k, TruV K x H' k ∧ Q k H') [some (V.ref a)] H (!(D.map V.str).isEmpty) := fun H1 e1 Q q => (ev_lts T (ev_var rfl) ha) H1 e1 _ fun H2 e2 => ⟨_, .inr (.inl ⟨_, st_of (e2 _ _ (e1 _ _ hp)), rfl⟩), q H2 e2⟩
    refine q_when (b := (D.map V.str).isEmpty) (et_is (et_not tr) (by simp)) (fun c H1 e1 => ?_) (fun c H1 e1 => ?_)
    · have e : D = [] := by simpa using c
      subst e
      exact s_ret ev_c fun H2 e2 => q H2 (e1.trans e2)
    · have ne : D ≠ [] := by intro e; rw [e] at c; cases c
      have z := ev_join (K := K) (sep := " | ") (ev_lts T (te := tVar 0) (σ := [some (V.ref a)]) (ev_var rfl) (e1 _ _ ha)) (.inr (st_of (e1 _ _ hp))) (by omega) (fun z m => Nat.le_trans (lit z m).2.1 (by decide)) (by decide)
      refine s_ret z fun H2 e2 => ?_
      have e : ctext D = Txt.join " | " D := if_neg ne
      rw [← e]
      exact q H2 (e1.trans e2)
/-- str(c) -/
theorem ev_strC {C : Addr} {σ : L2.St} {H : Hp} {te : TE} {a : Addr} {D : List Str} {E : XK} (h : Ev te σ H (.ref a)) (c : ClAt C H a D) (ok : LitsOk D) : Ev (tCB (rStrO C (spCStr C) E) (tCons te tNil)) σ H (.str (ctext D)) :=
  ev_cb (ea_cons h ea_nil) fun H1 e Q q => by
    have c2 := c.mono e
    obtain ⟨dx, p, ha, hp⟩ := id c2
    exact ⟨a, dx, _, rfl, ha, a, D, rfl, c2, ok, fun H2 e2 => ⟨_, rfl, q H2 e2⟩⟩
theorem ok_clause_text (T : Txt P K mg) : FnOk P w K mg base CX0 3 T.f_clause_text T.d_clause_text ["clause"] (spCStr T.C_Clause) := by
  refine T.F_clause_text.ok sc_clause_text (fun vs H Q E h => ?_) (fun cdv A outer s H vs Q E hr h => ?_)
  · obtain ⟨a, D, rfl, _⟩ := h
    rfl
  · obtain ⟨a, D, rfl, c, ok, q⟩ := h
    refine ⟨_, (pss_one (ps_ret (pe_callTy (call_strO T.m_Clause_str T.i_Clause_str (ok_Clause_str T) (hr.mono (by decide)) T.b_Clause_str pass0) (by rfl) T.n_str (by decide +kernel) (pa_cons (pv 0) pa_nil)))), ?_⟩
    exact s_ret (ev_strC (ev_var rfl) c ok) fun H1 e1 => q H1 e1
end
/-! ### what is the text of a clause -/
section
open TL
def sepC : Str := " | "
theorem tl_sepC : tl sepC = 32 :: [124, 32] := by decide
theorem spl_ne (S : List Nat) : ∀ (k : Nat) (acc l : List Nat), spl S k acc l ≠ []
  | _, _, [] => by rw [spl_nil]; simp
  | 0, acc, c :: r => by
    unfold spl
    split
    · simp
    · exact spl_ne S 0 _ r
  | k + 1, acc, _ :: r => spl_ne S k acc r
theorem parts_ne (z : Str) : Txt.split z sepC ≠ [] := fun e => by
  have h := split_spl z sepC (by rw [tl_sepC]; simp) (kind_ok (by decide +kernel))
  rw [e] at h
  exact spl_ne _ _ _ _ h.symm
theorem parts_join (z : Str) : Txt.join sepC (Txt.split z sepC) = z := by rw [join_eq]; exact StrLaws.join_split z sepC
theorem sub_joinL {S p : List Nat} : ∀ {ps : List (List Nat)}, p ∈ ps → p.Sublist (joinL S ps)
  | [q], h => by rw [List.mem_singleton.mp h]; exact List.Sublist.refl _
  | q :: q2 :: r, h => by
    show p.Sublist (q ++ (S ++ joinL S (q2 :: r)))
    rcases List.mem_cons.mp h with e | m
    · rw [e]; exact List.sublist_append_left _ _
    · exact (sub_joinL m).trans ((List.sublist_append_right _ _).trans (List.sublist_append_right _ _))
theorem len_joinL {S : List Nat} : ∀ ps : List (List Nat), ps.length * S.length ≤ (joinL S ps).length + S.length
  | [] => by simp
  | [q] => by
    show 1 * S.length ≤ q.length + S.length
    omega
  | q :: q2 :: r => by
    have ih := len_joinL (S := S) (q2 :: r)
    show ((q2 :: r).length + 1) * S.length ≤ (q ++ (S ++ joinL S (q2 :: r))).length + S.length
    rw [Nat.succ_mul, List.length_append, List.length_append]
    omega
theorem parts_tl (z : Str) : joinL (tl sepC) ((Txt.split z sepC).map tl) = tl z := by rw [← tl_join, StrLaws.join_split]
theorem part_txt {z p : Str} {n : Nat} (t : Txt8 n z) (h : p ∈ Txt.split z sepC) : Txt8 n p := by
  have s : (tl p).Sublist (tl z) := by rw [← parts_tl z]; exact sub_joinL (List.mem_map_of_mem h)
  have l : p.cps.size = (tl p).length := by simp [tl]
  have l2 : z.cps.size = (tl z).length := by simp [tl]
  exact ⟨by rw [l]; exact Nat.le_trans s.length_le (by rw [← l2]; exact t.1), fun c hc => t.2 c (s.subset hc)⟩
theorem parts_few {z : Str} {n : Nat} (t : Txt8 n z) : (Txt.split z sepC).length * 3 ≤ n + 3 := by
  have h := len_joinL (S := tl sepC) ((Txt.split z sepC).map tl)
  rw [parts_tl, List.length_map] at h
  have l2 : z.cps.size = (tl z).length := by simp [tl]
  have l3 : (tl sepC).length = 3 := by rw [tl_sepC]; rfl
  rw [l3] at h
  have := t.1
  omega
/-- a literal has no blank -/
theorem lit_blank {z : Str} (h : isLit z = true) : 32 ∉ tl z := fun m => by
  have nb : isName (bare z) = true := h
  obtain ⟨_, _, _, al⟩ := name_len nb
  have no : 32 ∉ (bare z).cps.toList := fun m2 => absurd (List.all_eq_true.mp al 32 m2) (by decide)
  rcases lit_form (z := z) with e | e
  · rw [e] at m; exact no m
  · rw [e] at m
    have m2 : (32 : Nat) ∈ ("-" ++ bare z).cps.toList := m
    rw [minus_codes] at m2
    rcases List.mem_cons.mp m2 with e2 | m3
    · cases e2
    · exact no m3
theorem split_back {D : List Str} (ne : D ≠ []) (lit : ∀ y ∈ D, isLit y = true) : Txt.split (Txt.join sepC D) sepC = D :=
  split_join tl_sepC (by decide +kernel) ne fun p hp => lit_blank (lit p hp)
/-- the literals that a text tells -/
def litsOf (z : Str) : List Str := if z = "0" then [] else Txt.split z sepC
structure Good (z : Str) : Prop where
  row : RowL 6 (litsOf z)
  ord : ∀ N, Ord ((litsOf z).map bare) N → due (litsOf z) N = litsOf z
theorem good_zero : Good "0" := by
  have e : litsOf "0" = [] := if_pos rfl
  refine ⟨by rw [e]; exact RowL.nil.mono (by decide), fun N od => ?_⟩
  rw [e] at od ⊢
  cases N with
  | nil => rfl
  | cons n r => exact absurd ((od.mem n).mp List.mem_cons_self) (by simp)
theorem good_text {z : Str} (g : Good z) : ctext (litsOf z) = z := by
  by_cases e : z = "0"
  · subst e
    have e : litsOf "0" = [] := if_pos rfl
    rw [e]
    rfl
  · have e2 : litsOf z = Txt.split z sepC := if_neg e
    unfold ctext
    rw [e2, if_neg (parts_ne z)]
    exact parts_join z
/-- a text other than 0: a clause was made of its parts -/
theorem good_iff {z : Str} {N : List Str} (nz : z ≠ "0") (od : Ord ((Txt.split z sepC).map bare) N) (lit : ∀ y ∈ Txt.split z sepC, isLit y = true) (one : N.find? (bothIn (Txt.split z sepC)) = none) (few : (due (Txt.split z sepC) N).length ≤ 6) :
    Good z ↔ ctext (due (Txt.split z sepC) N) = z := by
  have e2 : litsOf z = Txt.split z sepC := if_neg nz
  have dl : ∀ y ∈ due (Txt.split z sepC) N, isLit y = true := fun y hy => lit y ((due_mem od y).mp hy)
  have dne : due (Txt.split z sepC) N ≠ [] := fun e => by
    cases hs : Txt.split z sepC with
    | nil => exact parts_ne z hs
    | cons a r =>
      have m : a ∈ due (Txt.split z sepC) N := (due_mem od a).mpr (by rw [hs]; exact List.mem_cons_self)
      rw [e] at m
      cases m
  constructor
  · intro g
    have o := g.ord N (by rw [e2]; exact od)
    rw [e2] at o
    rw [o, ← e2]
    exact good_text g
  · intro t
    unfold ctext at t
    rw [if_neg dne] at t
    have o : due (Txt.split z sepC) N = Txt.split z sepC := by
      have b := split_back dne dl
      have t' : Txt.join sepC (due (Txt.split z sepC) N) = z := t
      rw [t'] at b
      exact b.symm
    refine ⟨⟨by rw [e2, ← o]; exact few, by rw [e2]; exact lit, ?_⟩, fun N' od' => ?_⟩
    · rw [e2]
      have nd : ∀ n ∈ N, dash n = false := fun n hn => by
        obtain ⟨y, hy, ey⟩ := List.mem_map.mp ((od.mem n).mp hn)
        rw [← ey]
        exact name_dash (lit y hy)
      have ndD := due_nodup (L := Txt.split z sepC) od.nd nd
      rw [o] at ndD
      have inj : ∀ x ∈ Txt.split z sepC, ∀ y ∈ Txt.split z sepC, bare x = bare y → x = y := fun x hx y hy e => by
        have nn : bare x ∈ N := (od.mem _).mpr (List.mem_map.mpr ⟨x, hx, rfl⟩)
        have nb : bothIn (Txt.split z sepC) (bare x) = false := by
          have q := List.find?_eq_none.mp one (bare x) nn
          cases c : bothIn (Txt.split z sepC) (bare x) with
          | false => rfl
          | true => exact absurd c q
        unfold bothIn at nb
        rcases lit_form (z := x) with ex | ex
        · rcases lit_form (z := y) with ey | ey
          · rw [ex, ey, e]
          · rw [decide_eq_true (by rw [← ex]; exact hx), decide_eq_true (by rw [e, ← ey]; exact hy)] at nb
            cases nb
        · rcases lit_form (z := y) with ey | ey
          · rw [decide_eq_true (by rw [e, ← ey]; exact hy), decide_eq_true (by rw [← ex]; exact hx)] at nb
            cases nb
          · rw [ex, ey, e]
      exact List.pairwise_map.mpr (List.Pairwise.imp_of_mem (fun ha hb ne e => ne (inj _ ha _ hb e)) ndD)
    · rw [e2] at od' ⊢
      rw [od'.uniq od fun _ => Iff.rfl]
      exact o
end
section
open Evl
/-- Clause() -/
theorem ec_nil {C CB CS CT : Addr} {σ : L2.St} {H : Hp} {E : XK} : EvC C (StX.tMakeR C (spInitR C CB CS CT) E tNil) σ H [] := fun H1 e1 Q q => by
  have n0 : ∀ {N : List Str}, Ord (([] : List Str).map bare) N → N = [] := fun od => List.eq_nil_iff_forall_not_mem.mpr fun x h => by
    have z := (od.mem x).mp h
    cases z
  have d0 : due [] [] = [] := rfl
  refine mk_args (L := []) (by decide) (fun z m => nomatch m) (fun H2 e2 Q k => k H2 (Ex.refl H2)) ⟨fun pre z post h => absurd h (by simp), fun _ N od n f => ?_, fun _ N od f l => ?_, fun _ N od f l H' x dx p e hx hp => ?_⟩
  · rw [n0 od] at f; cases f
  · rw [n0 od, d0] at l; exact absurd l (by decide)
  · rw [n0 od, d0] at hp
    exact q x H' e ⟨dx, p, hx, hp⟩
/-- str(c) of a clause somewhere -/
theorem ev_strE {C : Addr} {σ : L2.St} {H : Hp} {te : TE} {D : List Str} {E : XK} (h : EvC C te σ H D) (ok : LitsOk D) : Ev (tCB (rStrO C (spCStr C) E) (tCons te tNil)) σ H (.str (ctext D)) := fun H1 e1 Q q =>
  h H1 e1 _ fun x H2 e2 c => by
    obtain ⟨dx, p, ha, hp⟩ := id c
    exact ⟨x, dx, _, rfl, ha, x, D, rfl, c, ok, fun H3 e3 => ⟨_, rfl, q H3 (e2.trans e3)⟩⟩
/-- z.split(" | ") -/
theorem el_split {te : TE} {σ : L2.St} {H : Hp} {z : Str} {n : Nat} (h : Ev te σ H (.str z)) (t : Txt8 n z) (hn : n ≤ 900) : EvL (tBM K "str" (fun x xs H Q => ∃ a b, x = .str a ∧ xs = [.str b] ∧ (b.length == 0) = false ∧ a.length + 2 ≤ sizeLine ∧ rNewStrs (Txt.split a b) H Q) te (tCons (tC (.str " | ")) tNil)) σ H ((Txt.split z sepC).map V.str) :=
  fun H1 e Q q => h H1 e _ fun H2 e2 => ⟨rfl, ⟨z, " | ", rfl, rfl, by decide, line_of (by have a : z.length = z.cps.size := rfl; have := t.1; omega), fun p np => q p _ (fresh_back e2 np) (e2.trans (Ex.new np)) upd_same⟩⟩
/-- C(*parts) -/
theorem mk_star {C CB CS CT : Addr} {L : List Str} {σ : L2.St} {H : Hp} {Q : VK} {E : L2.St → XK} {te : TE} {r : Addr} (few : L.length ≤ 90) (txt : ∀ z ∈ L, Txt8 260 z) (h : Ev te σ H (.ref r)) (hr : H r = some (.lst (L.map V.str))) (go : MkL C CB CS CT L H Q (E σ)) :
    tMakeSS K C (spInitR C CB CS CT) E te σ H Q :=
  h H (Ex.refl H) _ fun H1 e1 => ⟨r, L.map V.str, rfl, .inr (sq_of (e1 _ _ hr)), mk_args (σ := σ) (ta := fun _ H Q => Q (L.map V.str) H) few txt (fun H2 e2 Q k => k H2 (Ex.refl H2)) (go.mono e1)⟩
theorem q_tryMk {C CB CS CT : Addr} {L : List Str} {σ : L2.St} {H : Hp} {te : TE} {r : Addr} {WF : Ends → WX} {i : Nat} {tz : TS} {D : Ends} (few : L.length ≤ 90) (txt : ∀ z ∈ L, Txt8 260 z) (h : Ev te σ H (.ref r)) (hr : H r = some (.lst (L.map V.str)))
    (go : MkL C CB CS CT L H (fun v H' => tz D (σ.set i (some v)) H') (fun cls d H' => WF { D with nx := tz D } cls d σ H')) : tSeq (fun D σ H => tAsg (tMakeSS K C (spInitR C CB CS CT) (WE (WF D)) te) (gName i) D σ H) tz D σ H :=
  mk_star (E := WE (WF { D with nx := tz D })) few txt h hr go
theorem lits_row {D : List Str} (r : RowL 6 D) : LitsOk D := ⟨Nat.le_trans r.few (by decide), fun z m => ⟨r.lit z m, (lit_txt (r.lit z m)).mono (by decide)⟩⟩
/-- _clause_in(text, line) -/
def spRead (C CT : Addr) : Sp := fun vs H Q E => ∃ (z : Str) (n : Int), vs = [.str z, .int n] ∧ Txt8 260 z ∧ n.natAbs.log2 < 1920 ∧ (toString n : Str).length ≤ 1000 ∧
  (Good z → ∀ H' x, Ex H H' → ClAt C H' x (litsOf z) → Q (.ref x) H') ∧ (¬ Good z → ∀ H' d, Ex H H' → H' d = some (.xd [("line", .int n)]) → E (.ref CT) (some d) H')
theorem exm_all {nm : Str} {A C fI : Addr} {pars : Arguments} {body : List Stmt} {sc : Scope} (TC : Cls1 P K mg nm C fI pars body sc) (su : PySem.W.subIn K (.ref A) (.ref C) = some false) : PySem.W.exmOne K (.ref A) (.ref C) = some false := by
  obtain ⟨n, q, N, bs, bm, sn, sub, ab, col, dd, k0, k1, k2, k3, k5, hC, _⟩ := TC.cls
  have hcl : (PySem.W.clsIn K C).isSome = true := by unfold PySem.W.clsIn; rw [hC] <;> rfl
  have e1 : (PySem.W.subIn K (.ref C) (.type "BaseException") == some true) = true := by rw [TC.exC] <;> rfl
  have e2 : ((PySem.W.clsIn K C).isSome && PySem.W.typeIn K (.ref C) == some (.type "type")) = true := by rw [hcl, TC.tyC] <;> rfl
  show (if (PySem.W.subIn K (.ref C) (.type "BaseException") == some true) = true then (if ((PySem.W.clsIn K C).isSome && PySem.W.typeIn K (.ref C) == some (.type "type")) = true then PySem.W.subIn K (.ref A) (.ref C) else none) else none) = some false
  rw [if_pos e1, if_pos e2]
  exact su
theorem any3 {cls a b c : Value} {x y z : Bool} (h1 : PySem.W.exmOne K cls a = some x) (h2 : PySem.W.exmOne K cls b = some y) (h3 : PySem.W.exmOne K cls c = some z) : PySem.W.exmAny K cls [a, b, c] = some (x || (y || (z || false))) := by
  unfold PySem.W.exmAny
  rw [h1]
  unfold PySem.W.exmAny
  rw [h2]
  unfold PySem.W.exmAny
  rw [h3]
  rfl
theorem ok__clause_in (T : Txt P K mg) : FnOk P w K mg base (L2.CX P w) 11 T.f__clause_in T.d__clause_in ["text", "line"] (spRead T.C_Clause T.C_BadText) := by
  refine T.F__clause_in.okL sc__clause_in (fun vs H Q E h => ?_) (fun cdv A outer s H vs Q E hr h => ?_)
  · obtain ⟨z, n, rfl, _⟩ := h
    rfl
  · obtain ⟨z, n, rfl, t, n1, n2, good, bad⟩ := h
    refine ⟨_, (pss_cons (ps_if (pt_cmpR op_eq (pv 0) (pe_callTy (call_strO T.m_Clause_str T.i_Clause_str (ok_Clause_str T) (hr.mono (by decide)) T.b_Clause_str pass0) (by rfl) T.n_str (by decide +kernel) (pa_cons (pe_makeR0 (mkC T) (okR_Clause_init T) (hr.mono (by decide)) rfl T.g_Clause passN) pa_nil)) (nomark _)) (pss_one (ps_ret (pe_makeR0 (mkC T) (okR_Clause_init T) (hr.mono (by decide)) rfl T.g_Clause passN))) pss_nil)
      (pss_cons (ps_set (i := 2) sc__clause_in.nd rfl (.inl rfl) (pe_bm PySem.F.plainAttrs_str PySem.F.slot_str_split PySem.F.type_str_split mt_split (pv 0) (pa_cons pe_str pa_nil)))
      (pss_cons (L2R.ps_try_rf (i := 3) (cs := [.ref T.C_BadLiteral, .ref T.C_BothSigns, .ref T.C_TooMany]) (tb := fun W => tAsg (tMakeSS K T.C_Clause (spInitR T.C_Clause T.C_BadLiteral T.C_BothSigns T.C_TooMany) (WE W) (tVar 2)) (gName 4))
        (ts := fun a cls d => fun _ σ H => σ[3]? = some (some (.ref a)) ∧ PySem.W.subIn K cls (.type "BaseException") = some true ∧ tMk1 T.C_BadText "line" _ (tCons (tVar 1) tNil) σ H fun cls d H' => E cls d H') (Wout := fun cls d σ H => E cls d H) rfl rfl sc__clause_in.nd rfl rfl (fun hd => L2H.passesAt_of rfl hd) (L2.takes_of rfl rfl rfl rfl)
        (L2R.htest3 ⟨rfl, by decide, Or.inl T.E_BadLiteral.gC⟩ ⟨rfl, by decide, Or.inl T.E_BothSigns.gC⟩ ⟨rfl, by decide, Or.inl T.E_TooMany.gC⟩)
        (fun W pn xe tk _ => (pss_one (ps_set (i := 4) sc__clause_in.nd rfl (.inl rfl) (L2R.pe_makeSS (mkC T) (okR_Clause_init T) (hr.mono (by decide)) rfl T.g_Clause (fun σ => L2N.passAt tk σ) (pv 2)))))
        (fun a oe cls d pn hz hf tk hot => (pss_one (L2R.ps_raiseHF (i := 3) hz hf rfl List.mem_cons_self rfl rfl (by decide) tk (L2R.pmk1H T.E_BadText rfl fld_line T.o_BadText (show L2H.RoomH 0 _ from ⟨(hr.mono (Nat.zero_le _)).dp, (hr.mono (Nat.zero_le _)).un⟩) (pa_cons (pv 1) pa_nil) rfl (by decide))))))
      (pss_cons (ps_if (pt_cmpR op_ne (pe_callTy (call_strO T.m_Clause_str T.i_Clause_str (ok_Clause_str T) (hr.mono (by decide)) T.b_Clause_str pass0) (by rfl) T.n_str (by decide +kernel) (pa_cons (pv 4) pa_nil)) (pv 0) (nomark _)) (pss_one (L2.ps_raise rfl (L2.takes_of rfl rfl rfl rfl) (L2R.pmk_up (pmk1 T.E_BadText rfl fld_line T.o_BadText hr (pa_cons (pv 1) pa_nil) rfl (by decide))))) pss_nil)
      (pss_one (ps_ret (pv 4))))))), ?_⟩
    have raise : ∀ {me : Expr}, ¬ Good z → ∀ (σ : L2.St) (H1 : Hp), σ[1]? = some (some (.int n)) → Ex H H1 → (∀ tk, Msg me "line" (.int n tk) (scope1 "line")) → tMk1 T.C_BadText "line" me (tCons (tVar 1) tNil) σ H1 fun cls d H' => E cls d H' := fun ng σ H1 h1 e1 hM =>
      ⟨_, h1, .int n, rfl, fun u hu => (by obtain ⟨tk, rfl⟩ := hu; exact hM tk), fun d nd => bad ng _ d (e1.trans (Ex.new nd)) upd_same⟩
    refine q_when (b := decide (z = "0")) (et_is (et_test (ev_op (ev_var rfl) (ev_strE ec_nil ⟨by decide, fun z m => nomatch m⟩) (rv_eq rfl))) ?_) (fun c H1 e1 => ?_) (fun c H1 e1 => ?_)
    · exact decide_eq_decide.mpr ⟨fun e => V.str.inj e, fun e => congrArg V.str e⟩
    · have ez : z = "0" := of_decide_eq_true c
      subst ez
      exact ec_nil H1 (Ex.refl H1) _ fun x H2 e2 cl => good good_zero H2 x (e1.trans e2) (by rw [show litsOf "0" = [] from if_pos rfl]; exact cl)
    · have nz : z ≠ "0" := of_decide_eq_false c
      have hL : litsOf z = Txt.split z sepC := if_neg nz
      have few := parts_few t
      refine q_asgL (el_split (ev_var rfl) t (by decide)) (fun p H2 np e2 hp => ?_)
      refine q_tryMk (L := Txt.split z sepC) (by omega) (fun y m => part_txt t m) (by exact ev_var rfl) hp ⟨fun pre y post eL yes no H3 d e3 hd => ?_, fun lits N od nn f H3 d e3 hd => ?_, fun lits N od f big H3 d e3 hd => ?_, fun lits N od f small H3 x dx q e3 hx hq => ?_⟩
      · have ng : ¬ Good z := fun g => by
          have := g.row.lit y (by rw [hL, eL]; simp)
          rw [no] at this
          cases this
        exact ⟨true, any3 T.E_BadLiteral.te (exm_all T.E_BothSigns T.su_BadLiteral_BothSigns) (exm_all T.E_TooMany T.su_BadLiteral_TooMany), fun _ a na => ⟨rfl, T.E_BadLiteral.exC, raise ng _ _ rfl ((e1.trans e2).trans e3) fun tk => L2R.msg_cic fld_line (by decide) (by decide) n1 n2⟩, fun q => Bool.noConfusion q⟩
      · have ng : ¬ Good z := fun g => by
          have := List.find?_some f
          rw [← hL, g.row.one] at this
          cases this
        exact ⟨true, any3 (exm_all T.E_BadLiteral T.su_BothSigns_BadLiteral) T.E_BothSigns.te (exm_all T.E_TooMany T.su_BothSigns_TooMany), fun _ a na => ⟨rfl, T.E_BothSigns.exC, raise ng _ _ rfl ((e1.trans e2).trans e3) fun tk => L2R.msg_cic fld_line (by decide) (by decide) n1 n2⟩, fun q => Bool.noConfusion q⟩
      · have ng : ¬ Good z := fun g => by
          have l := g.row.due_len (N := N) (by rw [hL]; exact od)
          have fw := g.row.few
          rw [hL] at l fw
          omega
        exact ⟨true, any3 (exm_all T.E_BadLiteral T.su_TooMany_BadLiteral) (exm_all T.E_BothSigns T.su_TooMany_BothSigns) T.E_TooMany.te, fun _ a na => ⟨rfl, T.E_TooMany.exC, raise ng _ _ rfl ((e1.trans e2).trans e3) fun tk => L2R.msg_cic fld_line (by decide) (by decide) n1 n2⟩, fun q => Bool.noConfusion q⟩
      · have ca : ClAt T.C_Clause H3 x (due (Txt.split z sepC) N) := ⟨dx, q, hx, hq⟩
        have dl : ∀ y ∈ due (Txt.split z sepC) N, isLit y = true := fun y hy => lits y ((due_mem od y).mp hy)
        have ok : LitsOk (due (Txt.split z sepC) N) := ⟨Nat.le_trans small (by decide), fun y m => ⟨dl y m, (lit_txt (dl y m)).mono (by decide)⟩⟩
        have gi := good_iff nz od lits f small
        have e123 := (e1.trans e2).trans e3
        refine q_when (b := !decide (V.str (ctext (due (Txt.split z sepC) N)) = V.str z)) (et_test (ev_op (ev_strC (ev_var rfl) ca ok) (ev_var rfl) (rv_ne rfl))) (fun c1 H4 e4 => ?_) (fun c1 H4 e4 => ?_)
        · have ng : ¬ Good z := fun g => by
            rw [decide_eq_true (congrArg V.str (gi.mp g))] at c1
            cases c1
          exact raise ng _ _ rfl (e123.trans e4) fun tk => L2R.msg_cic fld_line (by decide) (by decide) n1 n2
        · have g : Good z := gi.mpr (V.str.inj (of_decide_eq_true (by simpa using c1)))
          refine s_ret (ev_var rfl) fun H5 e5 => good g H5 x ((e123.trans e4).trans e5) ?_
          have o := g.ord N (by rw [hL]; exact od)
          rw [← o, hL]
          exact ca.mono (e4.trans e5)
end
section
open Evl
def dgt (c : Nat) : Bool := decide (48 ≤ c) && decide (c ≤ 57)
theorem dgt_iff {c : Nat} : dgt c = true ↔ 48 ≤ c ∧ c ≤ 57 := by
  unfold dgt
  rw [Bool.and_eq_true, decide_eq_true_eq, decide_eq_true_eq]
theorem all_dgt {l : List Nat} : l.all dgt = true ↔ NumText.AllDigits l := by
  rw [List.all_eq_true]
  exact ⟨fun h c hc => dgt_iff.mp (h c hc), fun h c hc => dgt_iff.mpr (h c hc)⟩
theorem dec128 : ∀ c, c < 128 → Unicode.isDecimal c = dgt c := by decide +kernel
theorem isdec_S {l : List Nat} (h : ∀ c ∈ l, c < 128) : Txt.isdecimal (SX.S l) = (!l.isEmpty && l.all dgt) := by
  unfold Txt.isdecimal
  have e : (SX.S l).cps.all Unicode.isDecimal = l.all Unicode.isDecimal := by
    show l.toArray.all Unicode.isDecimal = _
    rw [← Array.all_toList]
  rw [e, SX.S_len]
  have e2 : l.all Unicode.isDecimal = l.all dgt := by
    clear e
    induction l with
    | nil => rfl
    | cons c r ih =>
      rw [List.all_cons, List.all_cons, dec128 c (h c (by simp)), ih fun d hd => h d (List.mem_cons_of_mem _ hd)]
  rw [e2]
  cases l with
  | nil => rfl
  | cons c r =>
    rw [decide_eq_true (show 0 < (c :: r).length by simp)]
    rfl
/-- the number that a word tells -/
def numLine (l : List Nat) : Option Nat := if (!l.isEmpty && l.all dgt) = true then (if l.length ≤ 3 then (if TL.numL (NumText.digitsVal l) = l then some (NumText.digitsVal l) else none) else none) else none
theorem numLine_le {l : List Nat} {k : Nat} (h : numLine l = some k) : k ≤ 999 := by
  unfold numLine at h
  split at h
  · rename_i c1
    split at h
    · rename_i c2
      split at h
      · cases h
        have d : l.all dgt = true := (Bool.and_eq_true _ _ ▸ c1).2
        have v : ∀ c ∈ l, 48 ≤ c ∧ c ≤ 57 := fun c hc => dgt_iff.mp (List.all_eq_true.mp d c hc)
        match l, c2, v with
        | [], _, _ => decide
        | [a], _, v =>
          have := v a (by simp)
          show (0 * 10 + (a - 48)) ≤ 999
          omega
        | [a, b], _, v =>
          have := v a (by simp)
          have := v b (by simp)
          show ((0 * 10 + (a - 48)) * 10 + (b - 48)) ≤ 999
          omega
        | [a, b, c], _, v =>
          have := v a (by simp)
          have := v b (by simp)
          have := v c (by simp)
          show (((0 * 10 + (a - 48)) * 10 + (b - 48)) * 10 + (c - 48)) ≤ 999
          omega
      · cases h
    · cases h
  · cases h
theorem ev_isdec {te : TE} {σ : L2.St} {H : Hp} {l : List Nat} (h : Ev te σ H (.str (SX.S l))) (hc : ∀ c ∈ l, c < 128) : Ev (tBM0 K "str" (fun x xs H Q => ∃ a, x = .str a ∧ xs = [] ∧ True ∧ Q (.bl (Txt.isdecimal a)) H) te) σ H (.bl (!l.isEmpty && l.all dgt)) := fun H1 e1 Q q =>
  h H1 e1 _ fun H2 e2 => ⟨rfl, SX.S l, rfl, rfl, trivial, by rw [isdec_S hc]; exact q H2 e2⟩
/-- int(word) of digits -/
theorem ev_intD {te : TE} {σ : L2.St} {H : Hp} {l : List Nat} (h : Ev te σ H (.str (SX.S l))) (hd : (!l.isEmpty && l.all dgt) = true) (len : l.length ≤ 600) : Ev (tCB (fun xs H Q => ∃ a n, xs = [.str a] ∧ PySem.intText? a = some n ∧ a.length ≤ 640 ∧ Q (.int n) H) (tCons te tNil)) σ H (.int (NumText.digitsVal l : Int)) :=
  ev_cb (ea_cons h ea_nil) fun H1 e1 Q q => by
    rw [Bool.and_eq_true] at hd
    exact ⟨SX.S l, _, rfl, SX.int_S hd.2 (fun e => by rw [e] at hd; cases hd.1) (by omega), by rw [SX.S_len]; omega, q H1 (Ex.refl H1)⟩
def spIsNum : Sp := fun vs H Q _ => ∃ l : List Nat, vs = [.str (SX.S l), .int 3] ∧ (∀ c ∈ l, c < 128) ∧ l.length ≤ 600 ∧ ∀ H', Ex H H' → Q (.bl (numLine l).isSome) H'
theorem ok_is_number (T : Txt P K mg) : FnOk P w K mg base CX0 1 T.f_is_number T.d_is_number ["word", "most"] spIsNum := by
  refine T.F_is_number.ok sc_is_number (fun vs H Q E h => ?_) (fun cdv A outer s H vs Q E hr h => ?_)
  · obtain ⟨l, rfl, _⟩ := h
    rfl
  · obtain ⟨l, rfl, hc, hl, q⟩ := h
    refine ⟨_, (pss_one (ps_ret (pe_and (pe_bm0 PySem.F.plainAttrs_str PySem.F.slot_str_isdecimal PySem.F.type_str_isdecimal mt_isdecimal (pv 0)) (pe_and (pe_cmpR op_le (pe_callB call_len_str (by rfl) T.n_len PySem.boot_len (pa_cons (pv 0) pa_nil)) (pv 1) (nomark _)) (pe_one (pe_cmpR op_eq (pe_callTy call_str_int (by rfl) T.n_str (by decide +kernel) (pa_cons (pe_callTy call_int_str (by rfl) T.n_int (by decide +kernel) (pa_cons (pv 0) pa_nil)) pa_nil)) (pv 0) (nomark _))))))), ?_⟩
    have sz : (SX.S l).cps.size = l.length := by show l.toArray.size = _; exact List.size_toArray
    refine s_ret (v := .bl (numLine l).isSome) (ev_is (ev_andV (a := (!l.isEmpty && l.all dgt)) (b := decide (l.length ≤ 3) && decide (TL.numL (NumText.digitsVal l) = l)) (ev_isdec (ev_var rfl) hc) (fun hd => ev_andV (ev_is (ev_op (ev_lenS (ev_var rfl) (by omega)) (ev_var rfl) (fun H1 _ Q q => ⟨_, _, rfl, rfl, q H1 (Ex.refl H1)⟩)) ?_) (fun h3 => ev_is (ev_op (ev_cb (ea_cons (ev_intD (ev_var rfl) hd (by omega)) ea_nil) (fun H1 e1 Q q => ⟨_, rfl, ?_, q H1 (Ex.refl H1)⟩)) (ev_var rfl) (rv_eq rfl)) ?_))) ?_) (fun H1 e1 => q H1 e1)
    · rw [sz]
      exact congrArg V.bl (decide_eq_decide.mpr (by omega))
    · have d : l.all dgt = true := (Bool.and_eq_true _ _ ▸ hd).2
      have l3 : l.length ≤ 3 := of_decide_eq_true h3
      have b : NumText.digitsVal l ≤ 999 := by
        have v : ∀ c ∈ l, 48 ≤ c ∧ c ≤ 57 := fun c hc => dgt_iff.mp (List.all_eq_true.mp d c hc)
        match l, l3, v with
        | [], _, _ => decide
        | [a], _, v =>
          have := v a (by simp)
          show (0 * 10 + (a - 48)) ≤ 999
          omega
        | [a, b], _, v =>
          have := v a (by simp)
          have := v b (by simp)
          show ((0 * 10 + (a - 48)) * 10 + (b - 48)) ≤ 999
          omega
        | [a, b, c], _, v =>
          have := v a (by simp)
          have := v b (by simp)
          have := v c (by simp)
          show (((0 * 10 + (a - 48)) * 10 + (b - 48)) * 10 + (c - 48)) ≤ 999
          omega
      exact (itxt_of (n := (NumText.digitsVal l : Int)) (by omega) (by omega)).lg
    · refine congrArg V.bl (decide_eq_decide.mpr ⟨fun e => ?_, fun e => ?_⟩)
      · have e2 := V.str.inj e
        rw [show (toString ((NumText.digitsVal l : Nat) : Int) : Str) = SX.S (TL.numL (NumText.digitsVal l)) from SX.num_S _] at e2
        exact SX.S_inj e2
      · rw [show (toString ((NumText.digitsVal l : Nat) : Int) : Str) = SX.S (TL.numL (NumText.digitsVal l)) from SX.num_S _, e]
    · refine congrArg V.bl ?_
      unfold numLine
      cases (!l.isEmpty && l.all dgt) with
      | false => rfl
      | true =>
        rw [if_pos rfl, Bool.true_and]
        by_cases h3 : l.length ≤ 3
        · rw [if_pos h3, decide_eq_true h3, Bool.true_and]
          by_cases h4 : TL.numL (NumText.digitsVal l) = l
          · rw [if_pos h4, decide_eq_true h4]
            rfl
          · rw [if_neg h4, decide_eq_false h4]
            rfl
        · rw [if_neg h3, decide_eq_false h3]
          rfl
/-- what a line of a book tells: its number, its clause's literals -/
def PairOf (z : Str) (k : Nat) (D : List Str) : Prop := ∃ p q, TL.par [32] [] z.cps.toList = some (p, q) ∧ numLine p = some k ∧ Good (SX.S q) ∧ D = litsOf (SX.S q)
def spPair (C CT : Addr) : Sp := fun vs H Q E => ∃ (z : Str) (n : Int), vs = [.str z, .int n] ∧ Txt8 260 z ∧ n.natAbs.log2 < 1920 ∧ (toString n : Str).length ≤ 1000 ∧
  (∀ k D, PairOf z k D → ∀ H' t x, Ex H H' → H t = none → H' t = some (.tup [.int (k : Int), .ref x]) → ClAt C H' x D → Q (.ref t) H') ∧ ((∀ k D, ¬ PairOf z k D) → ∀ H' d, Ex H H' → H' d = some (.xd [("line", .int n)]) → E (.ref CT) (some d) H')
theorem cutB (l : List Nat) : (32 ∉ l) ∨ ∃ p q, l = p ++ 32 :: q ∧ 32 ∉ p := by
  induction l with
  | nil => exact .inl (by simp)
  | cons c r ih =>
    by_cases h : c = 32
    · exact .inr ⟨[], r, by rw [h]; rfl, by simp⟩
    · rcases ih with ih | ⟨p, q, e, hp⟩
      · exact .inl fun hm => by
          rcases List.mem_cons.mp hm with z | z
          · exact h z.symm
          · exact ih z
      · exact .inr ⟨c :: p, q, by rw [e]; rfl, fun hm => by
          rcases List.mem_cons.mp hm with z | z
          · exact h z.symm
          · exact hp z⟩
theorem et_tru {σ : L2.St} {H : Hp} {te : TE} {y : Str} (h : Ev te σ H (.str y)) (hy : y.length ≤ 1000) : EvT (fun σ H Q => te σ H fun x H' => ∃ k, TruV K x H' k ∧ Q k H') σ H ((y.length : Int) != 0) := fun H1 e1 Q q =>
  h H1 e1 _ fun H2 e2 => ⟨_, ⟨line_of hy, rfl⟩, q H2 e2⟩
/-- word, space, rest = z.partition(" ") -/
theorem q_part {z a b c : Str} {te : TE} {i j k : Nat} {tz : TS} {D : Ends} {σ : L2.St} {H : Hp} (h : Ev te σ H (.str z)) (hz : z.length ≤ 1000) (e : Txt.partition z " " = (a, b, c))
    (nx : ∀ H1, Ex H H1 → tz D (((σ.set i (some (.str a))).set j (some (.str b))).set k (some (.str c))) H1) :
    tSeq (tAsg (tBM K "str" (fun x xs H Q => ∃ a b, x = .str a ∧ xs = [.str b] ∧ (b.length == 0) = false ∧ a.length ≤ sizeLine ∧ ∀ p, H p = none → Q (.ref p) (upd H p (.tup [.str (Txt.partition a b).1, .str (Txt.partition a b).2.1, .str (Txt.partition a b).2.2]))) te (tCons (tC (.str " ")) tNil)) (gTup K 3 (gCons (gName i) (gCons (gName j) (gCons (gName k) gNil))))) tz D σ H :=
  h H (Ex.refl H) _ fun H1 e1 => ⟨rfl, z, " ", rfl, rfl, by decide, line_of hz, fun p np => ⟨p, _, rfl, st_of upd_same, rfl, _, _, rfl, _, _, rfl, _, _, rfl, rfl, by rw [e]; exact nx _ (e1.trans (Ex.new np))⟩⟩
theorem s_retP {ta tb : TE} {v : V} {σ : L2.St} {H : Hp} {D : Ends} (h : Ev ta σ H v) (k : ∀ H1, Ex H H1 → tb σ H1 fun w H2 => [v, w].length ≤ sizeLine ∧ ∀ p, H2 p = none → D.rt (.ref p) (upd H2 p (.tup [v, w]))) : tRet (tTup (tCons ta (tCons tb tNil))) D σ H := h H (Ex.refl H) _ k
theorem ok__pair_in (T : Txt P K mg) : FnOk P w K mg base (L2.CX P w) 12 T.f__pair_in T.d__pair_in ["row", "line"] (spPair T.C_Clause T.C_BadText) := by
  refine T.F__pair_in.okL sc__pair_in (fun vs H Q E h => ?_) (fun cdv A outer s H vs Q E hr h => ?_)
  · obtain ⟨z, n, rfl, _⟩ := h
    rfl
  · obtain ⟨z, n, rfl, t, n1, n2, good, bad⟩ := h
    refine ⟨_, (pss_cons (ps_asg (pe_bm PySem.F.plainAttrs_str PySem.F.slot_str_partition PySem.F.type_str_partition mt_partition (pv 0) (pa_cons pe_str pa_nil)) (pg_tup rfl (pgs_cons (pg_name (i := 2) sc__pair_in.nd rfl (.inl rfl)) (pgs_cons (pg_name (i := 3) sc__pair_in.nd rfl (.inl rfl)) (pgs_cons (pg_name (i := 4) sc__pair_in.nd rfl (.inl rfl)) pgs_nil)))))
      (pss_cons (ps_if (PW.pt (pw_or (pt_not (pt_truth (pv 3) (by intro _; rfl))) (pw_or1 (pt_not (pt_val (pe_call (ok_is_number T) (hr.mono (by decide)) rfl T.g_is_number T.F_is_number.kp T.b_is_number .nil pass0 (pa_cons (pv 2) (pa_cons (pe_glob (v := .int 3) rfl T.v_MOST_DIGITS ⟨_, rfl⟩) pa_nil)))))))) (pss_one (L2.ps_raise rfl (L2.takes_of rfl rfl rfl rfl) (L2R.pmk_up (pmk1 T.E_BadText rfl fld_line T.o_BadText hr (pa_cons (pv 1) pa_nil) rfl (by decide))))) pss_nil)
      (pss_one (ps_ret (pe_tup (pa_cons (pe_callTy call_int_str (by rfl) T.n_int (by decide +kernel) (pa_cons (pv 2) pa_nil)) (pa_cons (pe_call (ok__clause_in T) (hr.mono (by decide)) rfl T.g__clause_in T.F__clause_in.kp T.b__clause_in .nil (L2.passes_call (L2.takes_of rfl rfl rfl rfl) (fun _ _ _ _ h => h)) (pa_cons (pv 4) (pa_cons (pv 1) pa_nil))) pa_nil))))))), ?_⟩
    have raise : ∀ {me : Expr}, (∀ k D, ¬ PairOf z k D) → ∀ (σ : L2.St) (H1 : Hp), σ[1]? = some (some (.int n)) → Ex H H1 → (∀ tk, Msg me "line" (.int n tk) (scope1 "line")) → tMk1 T.C_BadText "line" me (tCons (tVar 1) tNil) σ H1 fun cls d H' => E cls d H' := fun ng σ H1 h1 e1 hM =>
      ⟨_, h1, .int n, rfl, fun u hu => (by obtain ⟨tk, rfl⟩ := hu; exact hM tk), fun d nd => bad ng _ d (e1.trans (Ex.new nd)) upd_same⟩
    have zt : z = SX.S z.cps.toList := rfl
    have zl : z.length ≤ 260 := t.1
    rcases cutB z.cps.toList with h | ⟨p, q, el, h⟩
    · have hp : TL.par [32] [] z.cps.toList = none := TL.par_none1 h
      have e : Txt.partition z " " = (z, SX.S [], SX.S []) := SX.partition_none (a := z.cps.toList) (b := [32]) (by simp) hp
      have no : ∀ k D, ¬ PairOf z k D := fun k D ⟨p, q, e1, _⟩ => by rw [hp] at e1; cases e1
      refine q_part (ev_var rfl) (by omega) e (fun H0 e0 => ?_)
      refine q_when (b := true) (et_is (et_or (a := true) (b := true) (et_is (et_not (et_tru (K := K) (y := SX.S []) (ev_var rfl) (by decide))) (by decide)) (fun c => by cases c)) rfl) (fun _ H1 e1 => ?_) (fun c => by cases c)
      exact raise no _ _ rfl (e0.trans e1) fun tk => L2R.msg_cic fld_line (by decide) (by decide) n1 n2
    · have hp : TL.par [32] [] z.cps.toList = some (p, q) := by rw [el]; exact TL.par_part1 (S := []) (acc := []) h
      have e : Txt.partition z " " = (SX.S p, SX.S [32], SX.S q) := SX.partition_some (a := z.cps.toList) (b := [32]) (by simp) hp
      have zz : z.cps.toList.length = z.length := by simp [Str.length]
      have tp : ∀ c ∈ p, c < 128 := fun c hc => t.2 c (by rw [el]; exact List.mem_append_left _ hc)
      have tq : Txt8 260 (SX.S q) := by
        refine ⟨?_, fun c hc => t.2 c (by rw [el]; exact List.mem_append_right _ (List.mem_cons_of_mem _ hc))⟩
        have := congrArg List.length el
        rw [List.length_append, List.length_cons] at this
        have e2 : (SX.S q).cps.size = q.length := by show q.toArray.size = _; exact List.size_toArray
        omega
      have lp : p.length ≤ 260 := by
        have := congrArg List.length el
        rw [List.length_append] at this
        omega
      refine q_part (ev_var rfl) (by omega) e (fun H0 e0 => ?_)
      refine q_when (b := !(numLine p).isSome) (et_is (et_or (a := false) (b := !(numLine p).isSome) (et_is (et_not (et_tru (K := K) (y := SX.S [32]) (ev_var rfl) (by decide))) (by decide)) (fun _ => et_not (et_B (ev_call (z := .bl (numLine p).isSome) (ea_cons (ev_var rfl) (ea_cons ev_c ea_nil)) fun H2 e2 Q q E => ⟨p, rfl, tp, by omega, q⟩)))) (by rw [Bool.false_or])) (fun c H1 e1 => ?_) (fun c H1 e1 => ?_)
      · have no : ∀ k D, ¬ PairOf z k D := fun k D ⟨p', q', e1, e2, _⟩ => by
          rw [hp] at e1
          cases e1
          rw [e2] at c
          cases c
        exact raise no _ _ rfl (e0.trans e1) fun tk => L2R.msg_cic fld_line (by decide) (by decide) n1 n2
      · cases hk : numLine p with
        | none => rw [hk] at c; cases c
        | some k =>
          have hd : (!p.isEmpty && p.all dgt) = true ∧ NumText.digitsVal p = k := by
            have hk2 := hk
            unfold numLine at hk2
            split at hk2
            · rename_i c1
              refine ⟨c1, ?_⟩
              split at hk2
              · split at hk2
                · exact Option.some.inj hk2
                · cases hk2
              · cases hk2
            · cases hk2
          have e01 := e0.trans e1
          refine s_retP (v := .int (k : Int)) (ev_is (ev_intD (l := p) (ev_var rfl) hd.1 (by omega)) (by rw [hd.2])) fun H2 e2 => ?_
          have e02 := e01.trans e2
          refine ⟨_, rfl, _, rfl, SX.S q, n, rfl, tq, n1, n2, fun g H3 x e3 cx => ⟨by show 2 ≤ sizeLine; decide, fun u nu => ?_⟩, fun ng H3 d e3 hd3 => bad (fun k' D' ⟨p', q', e1', e2', g', _⟩ => ?_) H3 d (e02.trans e3) hd3⟩
          · exact good k _ ⟨p, q, hp, hk, g, rfl⟩ _ u x ((e02.trans e3).trans (Ex.new nu)) (fresh_back (e02.trans e3) nu) upd_same (cx.mono (Ex.new nu))
          · rw [hp] at e1'
            cases e1'
            exact ng g'
end
section
open Evl
theorem rawNumbered (T : Txt P K mg) : FnR P w K mg base (L2N.CX P w) 14 T.f_Book_numbered (spNumbered T.C_Clause T.C_Book T.C_BadNumber T.C_TooMany) :=
  ((okR_Book_numbered T).raw T.b_Book_numbered .nil).imp fun vs H Q E h => by rw [List.append_nil]; exact h
end
section
open Evl
theorem any2 {cls a b : Value} {x y : Bool} (h1 : PySem.W.exmOne K cls a = some x) (h2 : PySem.W.exmOne K cls b = some y) : PySem.W.exmAny K cls [a, b] = some (x || (y || false)) := by
  unfold PySem.W.exmAny
  rw [h1]
  unfold PySem.W.exmAny
  rw [h2]
  rfl
/-- _book_up_to(pairs, line) -/
def spUpTo (C CB CT : Addr) : Sp := fun vs H Q E => ∃ (pl : Addr) (prs : List Pr) (n : Int), vs = [.ref pl, .int n] ∧ H pl = some (.lst (prs.map fun x => V.ref x.1)) ∧ (∀ x ∈ prs, H x.1 = some (.tup [.int x.2.1, .ref x.2.2.1])) ∧ ClsAt C H (prs.map (·.2.2)) ∧ prs.length ≤ 1000 ∧ (allNames (prs.map (·.2.2))).length + 1 < 4096 ∧
  n.natAbs.log2 < 1920 ∧ (toString n : Str).length ≤ 1000 ∧ (∀ x ∈ prs, ITxt x.2.1) ∧
  (GoodTo prs prs.length → ∀ H' b dx d, Ex H H' → H b = none → H d = none → H' b = some (.ins CB dx (bkF d (lastOf prs))) → H' d = some (.dK (dkv (prs.map Pr.ent))) → Q (.ref b) H') ∧
  (¬ GoodTo prs prs.length → ∀ H' d, Ex H H' → H' d = some (.xd [("line", .int n)]) → E (.ref CT) (some d) H')
theorem ok__book_up_to (T : Txt P K mg) : FnOk P w K mg base (L2.CX P w) 15 T.f__book_up_to T.d__book_up_to ["pairs", "line"] (spUpTo T.C_Clause T.C_Book T.C_BadText) := by
  refine T.F__book_up_to.okL sc__book_up_to (fun vs H Q E h => ?_) (fun cdv A outer s H vs Q E hr h => ?_)
  · obtain ⟨pl, prs, n, rfl, _⟩ := h
    rfl
  · obtain ⟨pl, prs, n, rfl, hpl, htup, hcl, few, names, n1, n2, tx, good, bad⟩ := h
    refine ⟨_, (pss_one (L2R.ps_try_rf (i := 2) (cs := [.ref T.C_BadNumber, .ref T.C_TooMany]) (tb := fun W => tRet (ClX.tCMethS T.C_Book (spNumbered T.C_Clause T.C_Book T.C_BadNumber T.C_TooMany) (WE W) (tC (.ref T.C_Book)) (tCons (tVar 0) tNil)))
        (ts := fun a cls d => fun _ σ H => σ[2]? = some (some (.ref a)) ∧ PySem.W.subIn K cls (.type "BaseException") = some true ∧ tMk1 T.C_BadText "line" _ (tCons (tVar 1) tNil) σ H fun cls d H' => E cls d H') (Wout := fun cls d σ H => E cls d H) rfl rfl sc__book_up_to.nd rfl rfl (fun hd => L2H.passesAt_of rfl hd) (L2.takes_of rfl rfl rfl rfl)
        (L2R.htest2 ⟨rfl, by decide, Or.inl T.E_BadNumber.gC⟩ ⟨rfl, by decide, Or.inl T.E_TooMany.gC⟩)
        (fun W pn xe tk _ => (pss_one (ps_ret (ClX.pe_cmethS (pe_glob (v := .ref T.C_Book) rfl T.g_Book rfl) T.R_Book T.M_Book_numbered (rawNumbered T) (hr.mono (by decide)) (fun σ => L2N.passAt tk σ) (by exact (pa_cons (pv 0) pa_nil))))))
        (fun a oe cls d pn hz hf tk hot => (pss_one (L2R.ps_raiseHF (i := 2) hz hf rfl List.mem_cons_self rfl rfl (by decide) tk (L2R.pmk1H T.E_BadText rfl fld_line T.o_BadText (k := 0) (show L2H.RoomH 0 _ from ⟨(hr.mono (Nat.zero_le _)).dp, (hr.mono (Nat.zero_le _)).un⟩) (pa_cons (pv 1) pa_nil) rfl (by decide))))))), ?_⟩
    have raise : ∀ {me : Expr}, ¬ GoodTo prs prs.length → ∀ (σ : L2.St) (H1 : Hp), σ[1]? = some (some (.int n)) → Ex H H1 → (∀ tk, Msg me "line" (.int n tk) (scope1 "line")) → tMk1 T.C_BadText "line" me (tCons (tVar 1) tNil) σ H1 fun cls d H' => E cls d H' := fun ng σ H1 h1 e1 hM =>
      ⟨_, h1, .int n, rfl, fun u hu => (by obtain ⟨tk, rfl⟩ := hu; exact hM tk), fun d nd => bad ng _ d (e1.trans (Ex.new nd)) upd_same⟩
    refine ⟨rfl, _, rfl, pl, prs, rfl, hpl, htup, hcl, few, names, fun i hi gd nb => ⟨tx _ (List.getElem_mem hi), fun H' x e hx => ?_⟩, fun i hi gd lt le h24 H' x e hx => ?_, fun i hi gd lt le h24 h12 H' x e hx => ?_, fun g H' b dx d e nb nd hb hd => good g H' b dx d e nb nd hb hd⟩
    · exact ⟨true, any2 T.E_BadNumber.te (exm_all T.E_TooMany T.su_BadNumber_TooMany), fun _ a na => ⟨rfl, T.E_BadNumber.exC, raise (fun g => nb ⟨(g i hi hi).1, (g i hi hi).2.1⟩) _ _ rfl e fun tk => L2R.msg_cic fld_line (by decide) (by decide) n1 n2⟩, fun q => Bool.noConfusion q⟩
    · exact ⟨true, any2 (exm_all T.E_BadNumber T.su_TooMany_BadNumber) T.E_TooMany.te, fun _ a na => ⟨rfl, T.E_TooMany.exC, raise (fun g => by have := (g i hi hi).2.2.1; omega) _ _ rfl e fun tk => L2R.msg_cic fld_line (by decide) (by decide) n1 n2⟩, fun q => Bool.noConfusion q⟩
    · exact ⟨true, any2 (exm_all T.E_BadNumber T.su_TooMany_BadNumber) T.E_TooMany.te, fun _ a na => ⟨rfl, T.E_TooMany.exC, raise (fun g => by have := (g i hi hi).2.2.2; omega) _ _ rfl e fun tk => L2R.msg_cic fld_line (by decide) (by decide) n1 n2⟩, fun q => Bool.noConfusion q⟩
/-! ### books from lines -/
abbrev Ln := Int × List Str
def keyP (x : Pr) : Ln := (x.2.1, x.2.2.2)
def lastK (xs : List Ln) : Int := match xs.getLast? with | some x => x.1 | none => 0
def KGood (xs : List Ln) : Prop := ∀ j, (h : j < xs.length) → lastK (xs.take j) < xs[j].1 ∧ xs[j].1 ≤ 999 ∧ j < 24 ∧ (putL ((xs.take (j + 1)).flatMap fun x => x.2.map bare)).length ≤ 12
theorem lastK_key (prs : List Pr) : lastK (prs.map keyP) = lastOf prs := by
  unfold lastK lastOf
  rw [List.getLast?_map]
  cases prs.getLast? <;> rfl
theorem names_key (prs : List Pr) : (prs.map keyP).flatMap (fun x => x.2.map bare) = allNames (prs.map (·.2.2)) := by
  unfold allNames
  rw [List.flatMap_map, List.flatMap_map]
  rfl
theorem good_key {prs : List Pr} : GoodTo prs prs.length ↔ KGood (prs.map keyP) := by
  have e : ∀ j, (h : j < prs.length) → (lastK ((prs.map keyP).take j) = lastOf (prs.take j) ∧ (putL (((prs.map keyP).take (j + 1)).flatMap fun x => x.2.map bare)) = putL (allNames ((prs.take (j + 1)).map (·.2.2)))) := fun j h => by
    rw [← List.map_take, ← List.map_take, lastK_key, names_key]
    exact ⟨rfl, rfl⟩
  constructor
  · intro g j h
    have h2 : j < prs.length := by rw [List.length_map] at h; exact h
    have q := g j h2 h2
    rw [(e j h2).1, (e j h2).2, List.getElem_map]
    exact q
  · intro g j h _
    have q := g j (by rw [List.length_map]; exact h)
    rw [(e j h).1, (e j h).2, List.getElem_map] at q
    exact q
/-- the first lines tell these pairs, and a book has them -/
structure RdTo (R : List Str) (xs : List Ln) : Prop where
  le : xs.length ≤ R.length
  each : ∀ i, (h : i < xs.length) → ∃ k : Nat, xs[i].1 = (k : Int) ∧ PairOf (R[i]'(by omega)) k xs[i].2
  good : KGood xs
def spBookIn (C CB CT : Addr) : Sp := fun vs H Q E => ∃ (r : Addr) (R : List Str), vs = [.ref r] ∧ H r = some (.lst (R.map V.str)) ∧ R.length ≤ 200 ∧ (∀ z ∈ R, Txt8 260 z) ∧
  (∀ xs, RdTo R xs → xs.length = R.length → ∀ H' b dx d (ps : List Ent), Ex H H' → H b = none → H d = none → BkAt C CB H' b dx d ps (lastK xs) → ps.map (fun e => (e.1, e.2.2)) = xs.map (fun x => ((.inl x.1 : Key), x.2)) → Q (.ref b) H') ∧
  (∀ xs, RdTo R xs → xs.length < R.length → (∀ y, ¬ RdTo R (xs ++ [y])) → ∀ H' d, Ex H H' → H' d = some (.xd [("line", .int ((xs.length : Int) + 1))]) → E (.ref CT) (some d) H')
/-- Book() -/
theorem mk_book0 {CB : Addr} {σ : L2.St} {H : Hp} {Q : VK} {E : XK} (k : ∀ H' b dx d, Ex H H' → H b = none → H d = none → H' b = some (.ins CB dx (bkF d 0)) → H' d = some (.dK []) → Q (.ref b) H') :
    StX.tMakeR CB (fun vs H Q E => ∃ ws rest, vs = ws ++ rest ∧ ws.length = ["self"].length ∧ rest.length ≤ sizeLine ∧ ∀ p, H p = none → spBk0 CB (ws ++ [V.ref p]) (upd H p (.tup rest)) Q E) E tNil σ H Q := by
  intro b dx nb ndx dxb
  refine ⟨[.ref b], [], rfl, rfl, (by show 0 ≤ sizeLine; decide), fun p np => ⟨b, dx, p, rfl, ?_, upd_same, fun H3 d0 k3 nd3 hb3 hd3 => ⟨rfl, ?_⟩⟩⟩
  · have pb : p ≠ b := fun e => by rw [e, upd_same] at np; cases np
    rw [upd_ne (Ne.symm pb), upd_same]
  have e3 : Ex H H3 := fun c o h => by
    have c1 : c ≠ b := ne_of_none h nb
    have c2 : c ≠ dx := ne_of_none h ndx
    have h3 : (upd (upd H dx (.own b)) b (.ins CB dx [])) c = some o := by rw [upd_ne c1, upd_ne c2]; exact h
    exact k3 c o c1 (by rw [upd_ne (ne_of_none h3 np)]; exact h3)
  have fd : H d0 = none := by
    cases hx : H d0 with
    | none => rfl
    | some o =>
      have c1 : d0 ≠ b := ne_of_none hx nb
      have c2 : d0 ≠ dx := ne_of_none hx ndx
      have h3 : (upd (upd H dx (.own b)) b (.ins CB dx [])) d0 = some o := by rw [upd_ne c1, upd_ne c2]; exact hx
      rw [upd_ne (ne_of_none h3 np), h3] at nd3
      cases nd3
  exact k H3 b dx d0 e3 nb fd hb3 hd3
end
section
open Evl
theorem q_asgR {te : TE} {i : Nat} {tz : TS} {En : Ends} {σ : L2.St} {H : Hp} (h : te σ H fun v H1 => tz En (σ.set i (some v)) H1) : tSeq (tAsg te (gName i)) tz En σ H := h
theorem PairOf.le {z : Str} {k : Nat} {D : List Str} (h : PairOf z k D) : k ≤ 999 := by
  obtain ⟨p, q, _, e, _⟩ := h
  exact numLine_le e
theorem PairOf.lits {z : Str} {k : Nat} {D : List Str} (h : PairOf z k D) : RowL 6 D := by
  obtain ⟨p, q, _, _, g, rfl⟩ := h
  exact g.row
theorem PairOf.uniq {z : Str} {k k' : Nat} {D D' : List Str} (h : PairOf z k D) (h' : PairOf z k' D') : k = k' ∧ D = D' := by
  obtain ⟨p, q, e1, e2, _, rfl⟩ := h
  obtain ⟨p', q', e1', e2', _, rfl⟩ := h'
  rw [e1] at e1'
  cases e1'
  rw [e2] at e2'
  exact ⟨Option.some.inj e2', rfl⟩
theorem names_le {C : Addr} {H : Hp} : ∀ {cs : List (Addr × List Str)}, ClsAt C H cs → (allNames cs).length ≤ 12 * cs.length
  | [], _ => by simp [allNames]
  | c :: r, h => by
    have ih := names_le (cs := r) fun x m => h x (List.mem_cons_of_mem _ m)
    have l := (h c List.mem_cons_self).2.1
    have e : allNames (c :: r) = c.2.map bare ++ allNames r := rfl
    rw [e, List.length_append, List.length_map, List.length_cons]
    omega
/-- the pairs of the first lines, and their book -/
structure Pst (C CB : Addr) (R : List Str) (H : Hp) (pl bb d : Addr) (prs : List Pr) (H' : Hp) : Prop where
  ex : Ex H H'
  hpl : H' pl = some (.lst (prs.map fun x => V.ref x.1))
  tup : ∀ x ∈ prs, H' x.1 = some (.tup [.int x.2.1, .ref x.2.2.1])
  cls : ClsAt C H' (prs.map (·.2.2))
  each : ∀ j, (hj : j < prs.length) → (hR : j < R.length) → ∃ k : Nat, prs[j].2.1 = (k : Int) ∧ PairOf R[j] k prs[j].2.2.2
  good : GoodTo prs prs.length
  fb : H bb = none
  fd : H d = none
  hb : ∃ dx, H' bb = some (.ins CB dx (bkF d (lastOf prs)))
  hd : H' d = some (.dK (dkv (prs.map Pr.ent)))
theorem Pst.rd {C CB : Addr} {R : List Str} {H H' : Hp} {pl bb d : Addr} {prs : List Pr} (s : Pst C CB R H pl bb d prs H') (le : prs.length ≤ R.length) : RdTo R (prs.map keyP) :=
  ⟨by rw [List.length_map]; exact le, fun i hi => by
    have h2 : i < prs.length := by rw [List.length_map] at hi; exact hi
    obtain ⟨k, e, p⟩ := s.each i h2 (by omega)
    rw [List.getElem_map]
    exact ⟨k, e, p⟩, good_key.mp s.good⟩
theorem bookAt {C CB : Addr} {R : List Str} {H H' : Hp} {pl bb d : Addr} {prs : List Pr} (s : Pst C CB R H pl bb d prs H') : ∃ dx, BkAt C CB H' bb dx d (prs.map Pr.ent) (lastOf prs) := by
  obtain ⟨dx, hb⟩ := s.hb
  refine ⟨dx, hb, s.hd, ?_⟩
  rw [List.map_map]
  exact s.cls
theorem ok_book_in (T : Txt P K mg) : FnOk P w K mg base (L2.CX P w) 16 T.f_book_in T.d_book_in ["rows"] (spBookIn T.C_Clause T.C_Book T.C_BadText) := by
  refine T.F_book_in.okL sc_book_in (fun vs H Q E h => ?_) (fun cdv A outer s H vs Q E hr h => ?_)
  · obtain ⟨r, R, rfl, _⟩ := h
    rfl
  · obtain ⟨r, R, rfl, hR, few, txt, good, bad⟩ := h
    refine ⟨_, (pss_cons (ps_set (i := 1) sc_book_in.nd rfl (.inl rfl) (pe_makeR0 (mkBk T) (okR_Book_init T) (hr.mono (by decide)) rfl T.g_Book passN))
      (pss_cons (ps_set (i := 2) sc_book_in.nd rfl (.inl rfl) (pe_lst pa_nil))
      (pss_cons (ps_for PassesOwn.leaving rfl (pi_enumL (by rfl) T.n_enumerate (pa_cons (pv 0) pa_nil) (pk_cons pe_int pk_nil)) (pg_tup rfl (pgs_cons (pg_name (i := 3) sc_book_in.nd rfl (.inl rfl)) (pgs_cons (pg_name (i := 4) sc_book_in.nd rfl (.inl rfl)) pgs_nil))) (pss_cons (ps_expr (pe_bm PySem.F.plainAttrs_list PySem.F.slot_list_append PySem.F.type_list_append mt_append (pv 2) (pa_cons (pe_call (ok__pair_in T) (hr.mono (by decide)) rfl T.g__pair_in T.F__pair_in.kp T.b__pair_in .nil (L2.passes_call (L2.takes_of rfl rfl rfl rfl) (fun _ _ _ _ h => h)) (pa_cons (pv 4) (pa_cons (pv 3) pa_nil))) pa_nil)))
      (pss_one (ps_set (i := 1) sc_book_in.nd rfl (.inl rfl) (pe_call (ok__book_up_to T) (hr.mono (by decide)) rfl T.g__book_up_to T.F__book_up_to.kp T.b__book_up_to .nil (L2.passes_call (L2.takes_of rfl rfl rfl rfl) (fun _ _ _ _ h => h)) (pa_cons (pv 2) (pa_cons (pv 3) pa_nil)))))))
      (pss_one (ps_ret (pv 1)))))), ?_⟩
    refine q_asgR (mk_book0 fun H1 b0 dx0 d0 e1 nb0 nd0 hb0 hd0 => ?_)
    refine ⟨(by show 0 ≤ sizeLine; decide), fun pl np => ?_⟩
    have fpl : H pl = none := fresh_back e1 np
    have e2 : Ex H1 (upd H1 pl (.lst [])) := Ex.new np
    have p0 : Pst T.C_Clause T.C_Book R H pl b0 d0 [] (upd H1 pl (.lst [])) :=
      ⟨e1.trans e2, upd_same, (fun x m => (nomatch m)), (fun x m => (nomatch m)), fun j hj => absurd hj (Nat.not_lt_zero _), fun j hj => absurd hj (Nat.not_lt_zero _), nb0, nd0, ⟨dx0, e2 _ _ hb0⟩, e2 _ _ hd0⟩
    refine ⟨_, rfl, r, R.map V.str, 1, rfl, rfl, by decide, by decide, sq_of (p0.ex _ _ hR), ?_⟩
    refine for_it (walk_enumL (K := K) (xs := R.map V.str)) (fun i σ H' => ∃ (bb d : Addr) (prs : List Pr) (v3 v4 : Option V), σ = [some (V.ref r), some (.ref bb), some (.ref pl), v3, v4] ∧ prs.length = i ∧ Pst T.C_Clause T.C_Book R H pl bb d prs H')
      ⟨b0, d0, [], none, none, rfl, rfl, p0⟩ (fun i σ H' _ ⟨_, _, _, _, _, _, _, p⟩ => sq_of (p.ex _ _ hR)) ?_ ?_
    · rintro i x σ H2 H3 hi ⟨bb, d, prs, v3, v4, rfl, len, p⟩ ⟨T1, y1, y2, rfl, nT, rfl, hy1, hy2⟩
      have hi2 : i < R.length := by rw [List.length_map] at hi; exact hi
      dsimp only at hy1 hy2
      rw [List.getElem?_map, List.getElem?_eq_getElem hi2] at hy2
      obtain rfl : V.str R[i] = y2 := Option.some.inj hy2
      obtain rfl : V.int (1 + (i : Int)) = y1 := Option.some.inj hy1
      have e3 : Ex H2 (upd H2 T1 (.tup [.int (1 + (i : Int)), .str R[i]])) := Ex.new nT
      have tx := itxt_of (n := 1 + (i : Int)) (by omega) (by omega)
      refine ⟨T1, _, rfl, st_of upd_same, rfl, _, _, rfl, _, _, rfl, rfl, ?_⟩
      have ln : ((prs.map keyP).length : Int) + 1 = 1 + (i : Int) := by rw [List.length_map, len]; omega
      have ltR : (prs.map keyP).length < R.length := by rw [List.length_map, len]; exact hi2
      refine ⟨_, rfl, .inl ⟨rfl, _, sq_of (e3 _ _ p.hpl)⟩, _, rfl, _, rfl, R[i], 1 + (i : Int), rfl, txt _ (List.getElem_mem hi2), tx.lg, tx.ln, fun k D po H4 t x e4 nt ht cx => ?_, fun no H4 dd e4 hdd => ?_⟩
      rotate_left
      · refine bad (prs.map keyP) (p.rd (by omega)) ltR (fun y ry => ?_) H4 dd ((p.ex.trans e3).trans e4) (by rw [ln]; exact hdd)
        obtain ⟨k, _, po⟩ := ry.each (prs.map keyP).length (by rw [List.length_append]; simp)
        have e : (prs.map keyP).length = i := by rw [List.length_map, len]
        have po2 : PairOf R[i] k ((prs.map keyP ++ [y])[(prs.map keyP).length]'(by rw [List.length_append]; simp)).2 := by
          have q : R[(prs.map keyP).length]'ltR = R[i] := by simp only [e]
          rw [← q]
          exact po
        exact no k _ po2
      have e34 := e3.trans e4
      have e24 := p.ex.trans e34
      have hpl4 := e34 _ _ p.hpl
      refine ⟨pl, _, .ref t, rfl, rfl, hpl4, sz_lt (by rw [List.length_map]; omega), ?_⟩
      have tpl : t ≠ pl := fun e => by rw [e, hpl4] at ht; cases ht
      have row := po.lits
      have e5 : Ex H (upd H4 pl (.lst (prs.map (fun x => V.ref x.1) ++ [.ref t]))) := e24.mut fpl
      have keep : ∀ c o, c ≠ pl → H4 c = some o → (upd H4 pl (.lst (prs.map (fun x => V.ref x.1) ++ [.ref t]))) c = some o := fun c o n h => by rw [upd_ne n]; exact h
      have keepC : ∀ {a : Addr} {D : List Str}, ClAt T.C_Clause H4 a D → ClAt T.C_Clause (upd H4 pl (.lst (prs.map (fun x => V.ref x.1) ++ [.ref t]))) a D := fun {a D} ⟨dx, q, h1, h2⟩ => ⟨dx, q, keep _ _ (fun e => by rw [e, hpl4] at h1; cases h1) h1, keep _ _ (fun e => by rw [e, hpl4] at h2; cases h2) h2⟩
      have tup2 : ∀ y ∈ prs ++ [(t, (k : Int), x, D)], (upd H4 pl (.lst (prs.map (fun x => V.ref x.1) ++ [.ref t]))) y.1 = some (.tup [.int y.2.1, .ref y.2.2.1]) := fun y m => by
        rcases List.mem_append.mp m with m | m
        · have h := e34 _ _ (p.tup y m)
          exact keep _ _ (fun e => by rw [e, hpl4] at h; cases h) h
        · rw [List.mem_singleton.mp m]
          exact keep _ _ tpl ht
      have cls2 : ClsAt T.C_Clause (upd H4 pl (.lst (prs.map (fun x => V.ref x.1) ++ [.ref t]))) ((prs ++ [(t, (k : Int), x, D)]).map (·.2.2)) := fun c m => by
        rw [List.map_append] at m
        rcases List.mem_append.mp m with m | m
        · have h := p.cls.mono e34 c m
          exact ⟨keepC h.1, h.2⟩
        · rw [List.mem_singleton.mp m]
          exact ⟨keepC cx, lits_row row⟩
      have hpl5 : (upd H4 pl (.lst (prs.map (fun x => V.ref x.1) ++ [.ref t]))) pl = some (.lst ((prs ++ [(t, (k : Int), x, D)]).map fun x => V.ref x.1)) := by rw [upd_same, List.map_append]; rfl
      have len2 : (prs ++ [(t, (k : Int), x, D)]).length = i + 1 := by rw [List.length_append, len]; rfl
      have each2 : ∀ j, (hj : j < (prs ++ [(t, (k : Int), x, D)]).length) → (hR : j < R.length) → ∃ k' : Nat, (prs ++ [(t, (k : Int), x, D)])[j].2.1 = (k' : Int) ∧ PairOf R[j] k' (prs ++ [(t, (k : Int), x, D)])[j].2.2.2 := fun j hj hR => by
        by_cases lt : j < prs.length
        · rw [List.getElem_append_left lt]
          exact p.each j lt hR
        · have ej : j = i := by omega
          subst ej
          rw [List.getElem_append_right (by omega)]
          simp only [len, Nat.sub_self, List.getElem_cons_zero]
          exact ⟨k, rfl, po⟩
      have nums : ∀ y ∈ prs ++ [(t, (k : Int), x, D)], ITxt y.2.1 := fun y m => by
        obtain ⟨j, hj, rfl⟩ := List.getElem_of_mem m
        obtain ⟨k', e, po'⟩ := each2 j hj (by omega)
        rw [e]
        have := po'.le
        exact itxt_of (by omega) (by omega)
      refine ⟨_, rfl, _, rfl, pl, prs ++ [(t, (k : Int), x, D)], 1 + (i : Int), rfl, hpl5, tup2, cls2, by omega, (by have := names_le cls2; rw [List.length_map] at this; omega), tx.lg, tx.ln, nums, fun g H6 b dx dd e6 nb nd hb hd => ?_, fun ng H6 dd e6 hdd => ?_⟩
      · exact ⟨b, dd, prs ++ [(t, (k : Int), x, D)], _, _, rfl, len2, e5.trans e6, e6 _ _ hpl5, fun y m => e6 _ _ (tup2 y m), cls2.mono e6, each2, g, fresh_back e5 nb, fresh_back e5 nd, ⟨dx, hb⟩, hd⟩
      · refine bad (prs.map keyP) (p.rd (by omega)) ltR (fun y ry => ng ?_) H6 dd (e5.trans e6) (by rw [ln]; exact hdd)
        have e : (prs.map keyP).length = i := by rw [List.length_map, len]
        obtain ⟨k', ek, po'⟩ := ry.each i (by rw [List.length_append, e]; simp)
        have ey : (prs.map keyP ++ [y])[i]'(by rw [List.length_append, e]; simp) = y := by
          rw [List.getElem_append_right (by omega)]
          simp only [e, Nat.sub_self, List.getElem_cons_zero]
        rw [ey] at ek po'
        obtain ⟨e1, e2⟩ := po.uniq po'
        refine good_key.mpr ?_
        rw [List.map_append]
        have z : [(t, (k : Int), x, D)].map keyP = [y] := by
          show [((k : Int), D)] = [y]
          obtain ⟨y1, y2⟩ := y
          dsimp only at ek e2
          rw [ek, e1, e2]
        rw [z]
        exact ry.good
    · rintro σ H2 ⟨bb, d, prs, v3, v4, rfl, len, p⟩
      rw [List.length_map] at len
      refine s_ret (ev_var rfl) fun H3 e3 => ?_
      obtain ⟨dx, B⟩ := bookAt p
      refine good (prs.map keyP) (p.rd (by omega)) (by rw [List.length_map]; exact len) H3 bb dx d (prs.map Pr.ent) (p.ex.trans e3) p.fb p.fd (by rw [lastK_key]; exact B.mono e3) ?_
      rw [List.map_map, List.map_map]
      rfl
/-- read_book(text) -/
def spReadB (C CB CT : Addr) : Sp := fun vs H Q E => ∃ z : Str, vs = [.str z] ∧ z.length ≤ 3000 ∧ (Txt.split z "\n").length ≤ 200 ∧ (∀ y ∈ Txt.split z "\n", Txt8 260 y) ∧
  (z = "" → ∀ H' b dx d, Ex H H' → H b = none → H d = none → BkAt C CB H' b dx d [] 0 → Q (.ref b) H') ∧
  (z ≠ "" → ∀ xs, RdTo (Txt.split z "\n") xs → xs.length = (Txt.split z "\n").length → ∀ H' b dx d (ps : List Ent), Ex H H' → H b = none → H d = none → BkAt C CB H' b dx d ps (lastK xs) → ps.map (fun e => (e.1, e.2.2)) = xs.map (fun x => ((.inl x.1 : Key), x.2)) → Q (.ref b) H') ∧
  (z ≠ "" → ∀ xs, RdTo (Txt.split z "\n") xs → xs.length < (Txt.split z "\n").length → (∀ y, ¬ RdTo (Txt.split z "\n") (xs ++ [y])) → ∀ H' d, Ex H H' → H' d = some (.xd [("line", .int ((xs.length : Int) + 1))]) → E (.ref CT) (some d) H')
theorem ok_read_book (T : Txt P K mg) : FnOk P w K mg base (L2.CX P w) 17 T.f_read_book T.d_read_book ["text"] (spReadB T.C_Clause T.C_Book T.C_BadText) := by
  refine T.F_read_book.okL sc_read_book (fun vs H Q E h => ?_) (fun cdv A outer s H vs Q E hr h => ?_)
  · obtain ⟨z, rfl, _⟩ := h
    rfl
  · obtain ⟨z, rfl, zl, few, txt, none0, good, bad⟩ := h
    refine ⟨_, (pss_cons (ps_if (pt_cmpR op_eq (pv 0) pe_str (nomark _)) (pss_one (ps_ret (pe_makeR0 (mkBk T) (okR_Book_init T) (hr.mono (by decide)) rfl T.g_Book passN))) pss_nil)
      (pss_one (ps_ret (pe_call (ok_book_in T) (hr.mono (by decide)) rfl T.g_book_in T.F_book_in.kp T.b_book_in .nil (L2.passes_call (L2.takes_of rfl rfl rfl rfl) (fun _ _ _ _ h => h)) (pa_cons (pe_bm PySem.F.plainAttrs_str PySem.F.slot_str_split PySem.F.type_str_split mt_split (pv 0) (pa_cons pe_str pa_nil)) pa_nil))))), ?_⟩
    refine q_when (b := decide (z = "")) (et_is (et_test (ev_op (ev_var rfl) ev_c (rv_eq rfl))) (decide_eq_decide.mpr ⟨fun e => V.str.inj e, fun e => congrArg V.str e⟩)) (fun c H1 e1 => ?_) (fun c H1 e1 => ?_)
    · exact mk_book0 fun H2 b dx d e2 nb nd hb hd => none0 (of_decide_eq_true c) H2 b dx d (e1.trans e2) (fresh_back e1 nb) (fresh_back e1 nd) ⟨hb, hd, fun x m => nomatch m⟩
    · have nz := of_decide_eq_false c
      refine ⟨_, rfl, rfl, z, "\n", rfl, rfl, by decide, (by rw [sizeLine_eq]; omega), fun p np => ⟨p, _, rfl, upd_same, few, txt, fun xs rd l H2 b dx d ps e2 nb nd B ep => ?_, fun xs rd l no H2 d e2 hd => ?_⟩⟩
      · have e02 := (e1.trans (Ex.new np)).trans e2
        exact good nz xs rd l H2 b dx d ps e02 (fresh_back (e1.trans (Ex.new np)) nb) (fresh_back (e1.trans (Ex.new np)) nd) B ep
      · exact bad nz xs rd l no H2 d ((e1.trans (Ex.new np)).trans e2) hd
end
section
open Evl
/-- [tuple(_law_ordered(row)) for row in rows] -/
theorem lc_dues {σ : L2.St} {H : Hp} {tl : TE} {ln lr : Addr} {es : List Rc} {last : Int} {j : Nat} {vs : List Nat} {Q : VK} (h : Ev tl σ H (.ref lr)) (tab : TabAt H ln lr es) (o : EsOk es last)
    (hw : ∀ x, wipe ((wipe σ vs).set j (some x)) vs = wipe σ vs) (hj : ∀ x, ((wipe σ vs).set j (some x))[j]? = some (some x))
    (k : ∀ D H2 (t : Nat → Addr), H D = none → Ex H H2 → H2 D = some (.lst ((List.range es.length).map fun k => V.ref (t k))) → (∀ i e, es[i]? = some e → H2 (t i) = some (.tup (e.D.map V.str))) → Q (.ref D) H2) :
    tLc (iList K tl) (gName j) tYes (tCB (fun xs H Q => ∃ p ys, xs = [.ref p] ∧ ((SqL K H p ys ∧ ∀ l, H l = none → Q (.ref l) (upd H l (.tup ys))) ∨ (SqT K H p ys ∧ Q (.ref p) H))) (tCons (tCall spOrdered [] E0 (tCons (tVar j) tNil)) tNil)) vs σ H Q := h H (Ex.refl H) _ fun H1 e1 => by
  have tab1 := tab.mono e1
  refine ⟨lr, rfl, ⟨_, sq_of tab1.rows⟩, fun D nD => lc_list (K := K) (xs := es.map fun e => V.ref e.ra) (fun i H' => Ex H1 H' ∧ ∃ t : Nat → Addr, H' D = some (.lst ((List.range i).map fun k => V.ref (t k))) ∧ ∀ k e, k < i → es[k]? = some e → H' (t k) = some (.tup (e.D.map V.str))) ⟨Ex.new nD, fun _ => 0, upd_same, fun k e hk => by omega⟩ (fun i H' _ x => sq_of (x.1 _ _ tab1.rows)) ?_ ?_⟩
  · rintro i x H3 hi ⟨q1, t, q2, q3⟩
    obtain ⟨e, he, rfl⟩ : ∃ z, es[i]? = some z ∧ V.ref z.ra = x := by
      rw [List.getElem?_map] at hi
      cases e : es[i]? with
      | none => rw [e] at hi; cases hi
      | some z => rw [e] at hi; exact ⟨z, rfl, Option.some.inj hi⟩
    have me := List.mem_of_getElem? he
    have li : i < es.length := (List.getElem?_eq_some_iff.mp he).1
    have fw := o.few
    obtain ⟨rw3, N, od, eD⟩ := o.row e me
    refine ⟨hw _, ?_⟩
    unfold tYes
    dsimp only
    rw [if_pos rfl]
    refine ⟨_, hj _, e.ra, e.R, rfl, q1 _ _ (tab1.each e me), Nat.le_trans rw3.few (by decide), fun z hz => Nat.le_trans (rw3.txt z hz).1 (by decide), fun N' od' r H4 no e4 ho => ⟨r, _, rfl, .inl ⟨SqL.of ho, fun y ny => ?_⟩⟩⟩
    have hD := e4 _ _ q2
    have yD : y ≠ D := fun e => by rw [e, hD] at ny; cases ny
    rw [od'.uniq od fun _ => Iff.rfl, ← eD]
    refine ⟨(List.range i).map fun k => V.ref (t k), by rw [upd_ne yD.symm]; exact hD, by rw [List.length_map, List.length_range]; exact sz_lt (by omega), Ex.mut ((q1.trans e4).trans (Ex.new ny)) nD, fun k => if k = i then y else t k, ?_, fun k e' hk he' => ?_⟩
    · rw [upd_same, List.range_succ, List.map_append, List.map_cons, List.map_nil]
      dsimp only
      rw [if_pos rfl]
      congr 3
      exact List.map_congr_left fun k hk => by rw [if_neg (by have := List.mem_range.mp hk; omega)]
    · dsimp only
      by_cases c : k = i
      · subst c
        rw [he] at he'
        cases he'
        rw [if_pos rfl, upd_ne yD, upd_same]
      · rw [if_neg c]
        have z := e4 _ _ (q3 k e' (by omega) he')
        have n1 : t k ≠ D := fun e => by rw [e, hD] at z; cases z
        have n2 : t k ≠ y := ne_of_none z ny
        rw [upd_ne n1, upd_ne n2]
        exact z
  · rintro H3 ⟨q1, t, q2, q3⟩
    rw [List.length_map] at q2 q3
    exact k D H3 t (fresh_back e1 nD) (e1.trans q1) q2 fun i e he => q3 i e (List.getElem?_eq_some_iff.mp he).1 he
theorem q_dues {tz : TS} {En : Ends} {σ : L2.St} {H : Hp} {tl : TE} {ln lr : Addr} {es : List Rc} {last : Int} {i j : Nat} {vs : List Nat} (h : Ev tl σ H (.ref lr)) (tab : TabAt H ln lr es) (o : EsOk es last)
    (hw : ∀ x, wipe ((wipe σ vs).set j (some x)) vs = wipe σ vs) (hj : ∀ x, ((wipe σ vs).set j (some x))[j]? = some (some x))
    (k : ∀ D H2 (t : Nat → Addr), Ex H H2 → H2 D = some (.lst ((List.range es.length).map fun k => V.ref (t k))) → (∀ i e, es[i]? = some e → H2 (t i) = some (.tup (e.D.map V.str))) → tz En (σ.set i (some (.ref D))) H2) :
    tSeq (tAsg (tLc (iList K tl) (gName j) tYes (tCB (fun xs H Q => ∃ p ys, xs = [.ref p] ∧ ((SqL K H p ys ∧ ∀ l, H l = none → Q (.ref l) (upd H l (.tup ys))) ∨ (SqT K H p ys ∧ Q (.ref p) H))) (tCons (tCall spOrdered [] E0 (tCons (tVar j) tNil)) tNil)) vs) (gName i)) tz En σ H :=
  lc_dues (K := K) (Q := fun v H2 => tz En (σ.set i (some v)) H2) h tab o hw hj fun D H2 t _ e hD ht => k D H2 t e hD ht
/-- two lists of tuples of texts -/
theorem ev_sLits {σ : L2.St} {H : Hp} {ta tb : TE} {k n : Nat} {p t : Nat → Addr} {E : XK} {D : Addr} {L : Nat → List Str} (ha : EvL ta σ H (given n (fun _ => true) fun i => V.ref (p i))) (hb : Ev tb σ H (.ref D)) (hD : H D = some (.lst ((List.range n).map fun i => V.ref (t i)))) (few : n ≤ 100)
    (eq : ∀ i, i < n → (L i).length ≤ 100 ∧ H (p i) = some (.tup ((L i).map V.str)) ∧ H (t i) = some (.tup ((L i).map V.str))) : Ev (tCall (spSameN (k + 2)) [] E (tCons ta (tCons tb tNil))) σ H (.bl true) := fun H1 e1 Q q =>
  ha H1 e1 _ fun u H2 nu e2 hu => hb H2 (e1.trans e2) _ fun H3 e3 => ⟨_, _, rfl, (by
    have e03 := (e1.trans e2).trans e3
    rw [given_all] at hu
    refine .lst (e3 _ _ hu) (e03 _ _ hD) (by rw [List.length_map, List.length_map]) (by rw [List.length_map, List.length_range]; exact few) fun i x y hx hy => ?_
    have li : i < n := by
      have z := (List.getElem?_eq_some_iff.mp hx).1
      rw [List.length_map, List.length_range] at z
      exact z
    rw [List.getElem?_map, List.getElem?_range li] at hx hy
    obtain rfl : V.ref (p i) = x := Option.some.inj hx
    obtain rfl : V.ref (t i) = y := Option.some.inj hy
    obtain ⟨l, h1, h2⟩ := eq i li
    exact .txtT (e03 _ _ h1) (e03 _ _ h2) l), fun H4 e4 => q H4 ((e2.trans e3).trans e4)⟩
/-- _law_state(book, numbers, rows, coming) -/
def spState (C CB : Addr) : Sp := fun vs H Q _ => ∃ (b dx d ln lr : Addr) (es : List Rc) (last : Int), vs = [.ref b, .ref ln, .ref lr, .int (last + 1)] ∧ BkAt C CB H b dx d (es.map Rc.ent) last ∧ TabAt H ln lr es ∧ EsOk es last ∧ (putL (allNames ((es.map Rc.ent).map (·.2)))).length ≤ 12 ∧ ∀ H', Ex H H' → Q (.bl true) H'
theorem ty_book (T : Txt P K mg) {H : Hp} {x dx : Addr} {fs : List (Str × V)} (h : H x = some (.ins T.C_Book dx fs)) : TyX K H (.ref x) (.ref T.C_Book) := .base (.ins h T.cl_Book T.ins_Book.ha T.ins_Book.hn T.ins_Book.htk T.ins_Book.hm)
theorem ev_isBk (T : Txt P K mg) {σ : L2.St} {H : Hp} {te : TE} {a dx : Addr} {fs : List (Str × V)} (h : Ev te σ H (.ref a)) (hx : H a = some (.ins T.C_Book dx fs)) : Ev (tCB (rIsi K) (tCons te (tCons (tC (.ref T.C_Book)) tNil))) σ H (.bl true) :=
  ev_cb (ea_cons h (ea_cons ev_c ea_nil)) fun H1 e Q q => ⟨.ref a, .ref T.C_Book, .ref T.C_Book, .ref T.C_Book, true, rfl, .own _, ty_book T (e _ _ hx), T.ins_Book.me, q H1 (Ex.refl H1)⟩
theorem ok__law_state (T : Txt P K mg) : FnOk P w K mg base CX0 12 T.f__law_state T.d__law_state ["_law_book", "_law_numbers_here", "_law_rows", "_law_coming"] (spState T.C_Clause T.C_Book) := by
  refine T.F__law_state.ok sc__law_state (fun vs H Q E h => ?_) (fun cdv A outer s H vs Q E hr h => ?_)
  · obtain ⟨b, dx, d, ln, lr, es, last, rfl, _⟩ := h
    rfl
  · obtain ⟨b, dx, d, ln, lr, es, last, rfl, B, tab, o, n12, q⟩ := h
    have lc : LtC K T.C_Book T.f_Book_iter T.f_Book_len := ⟨T.m_Book_iter, T.i_Book_iter, T.m_Book_len, beq_iff_eq.mp T.i_Book_len⟩
    refine ⟨_, (pss_cons (ps_if (PW.pt (pw_or (pt_not (pt_val (pe_callB call_isi (by rfl) T.n_isinstance (by decide +kernel) (pa_cons (pv 0) (pa_cons (pe_glob (v := .ref T.C_Book) rfl T.g_Book rfl) pa_nil))))) (pw_or (pt_not (pt_val (pe_call (okN__law_same T 2) (hr.mono (by decide)) rfl T.g__law_same T.F__law_same.kp T.b__law_same .nil pass0 (pa_cons (pe_lock (pe_callTy (call_listOd lc rfl (ok_Book_iter T) T.b_Book_iter (ok_Book_len T) T.b_Book_len (hr.mono (by decide))) (by rfl) T.n_list (by decide +kernel) (pa_cons (pv 0) pa_nil))) (pa_cons (pv 1) pa_nil))))) (pw_or1 (pt_not (pt_val (pe_call (okN__law_same T 2) (hr.mono (by decide)) rfl T.g__law_same T.F__law_same.kp T.b__law_same .nil pass0 (pa_cons (pe_callB (call_lenO T.m_Book_len (beq_iff_eq.mp T.i_Book_len) (ok_Book_len T) (hr.mono (by decide)) T.b_Book_len pass0) (by rfl) T.n_len PySem.boot_len (pa_cons (pv 0) pa_nil)) (pa_cons (pe_callB call_len_seq (by rfl) T.n_len PySem.boot_len (pa_cons (pv 1) pa_nil)) pa_nil))))))))) (pss_one (ps_ret pe_bl)) pss_nil)
      (pss_cons (ps_if (PW.pt (pw_or (pt_not (pt_val (pe_call (okN__law_same T 2) (hr.mono (by decide)) rfl T.g__law_same T.F__law_same.kp T.b__law_same .nil pass0 (pa_cons (pe_prop (pv 0) T.cl_Book T.P_Book_next_number (ok_Book_next_number T) (hr.mono (by decide)) T.b_Book_next_number .nil pass0 (by rfl)) (pa_cons (pv 3) pa_nil))))) (pw_or1 (pt_not (pt_val (pe_call (okN__law_same T 2) (hr.mono (by decide)) rfl T.g__law_same T.F__law_same.kp T.b__law_same .nil pass0 (pa_cons (pe_prop (pv 0) T.cl_Book T.P_Book_names (ok_Book_names T) (hr.mono (by decide)) T.b_Book_names .nil pass0 (by rfl)) (pa_cons (pe_callTy call_tuple_of (by rfl) T.n_tuple (by decide +kernel) (pa_cons (pe_call (ok__law_names_in T) (hr.mono (by decide)) rfl T.g__law_names_in T.F__law_names_in.kp T.b__law_names_in .nil pass0 (pa_cons (pv 2) pa_nil)) pa_nil)) pa_nil)))))))) (pss_one (ps_ret pe_bl)) pss_nil)
      (pss_cons (ps_setLc (i := 4) (own := [("_law_row_here", 5)]) (g := gName 5) (te := tCB (fun xs H Q => ∃ p ys, xs = [.ref p] ∧ ((SqL K H p ys ∧ ∀ l, H l = none → Q (.ref l) (upd H l (.tup ys))) ∨ (SqT K H p ys ∧ Q (.ref p) H))) (tCons (tCall spOrdered [] E0 (tCons (tVar 5) tNil)) tNil)) (by rfl) sc__law_state.nd rfl rfl (sw_true rfl rfl rfl (by decide +kernel)) (pi_list (pv 2)) (blkOk_by (own := [("_law_row_here", 5)]) (N := N__law_state) (sc := defScope s__law_state) (by decide +kernel)) (fun _ _ _ _ _ => pg_name (i := 5) sc__law_state.nd rfl (Or.inl rfl)) (fun _ _ _ _ _ => pts_nil) (fun _ _ _ _ _ => (pe_callTy call_tuple_of (by rfl) T.n_tuple (by decide +kernel) (pa_cons (pe_call (ok__law_ordered T) (hr.mono (by decide)) rfl T.g__law_ordered T.F__law_ordered.kp T.b__law_ordered .nil pass0 (pa_cons (pv 5) pa_nil)) pa_nil))))
      (pss_one (ps_ret (pe_call (okN__law_same T 2) (hr.mono (by decide)) rfl T.g__law_same T.F__law_same.kp T.b__law_same .nil pass0 (pa_cons (pe_lc (own := [("_law_number", 6)]) (g := gName 6) (te := tFld K (tSubO T.C_Book (spBGet T.C_Book T.C_NoClause) E0 (tVar 0) (tVar 6)) "literals") (by rfl) sc__law_state.nd (pi_list (pv 1)) (blkOk_by (own := [("_law_number", 6)]) (N := N__law_state) (sc := defScope s__law_state) (by decide +kernel)) (fun _ _ _ _ _ => pg_name (i := 6) sc__law_state.nd rfl (Or.inl rfl)) (fun _ _ _ _ _ => pts_nil) (fun _ _ _ _ _ => (pe_fld (pe_subO (getB T) (ok_Book_getitem T) (hr.mono (by decide)) T.b_Book_getitem passN0 (pv 0) (pv 6)) rfl))) (pa_cons (pv 4) pa_nil)))))))), ?_⟩
    have keys := Rc.keys es
    have fw := o.few
    have l0 := o.l0
    have l9 := o.l9
    have lD := o.lenD
    have lR := o.sum
    have le : (es.map Rc.ent).length = es.length := List.length_map _
    have lm : (es.map Rc.n).length = es.length := List.length_map _
    refine q_when (b := false) (et_is (et_or (et_not (et_B (ev_isBk T (ev_var rfl) B.at_))) (fun _ => et_or (et_not (et_B (ev_sNIs (n := 1) (el_listB rfl B keys (by omega)) (ev_var rfl) tab.num (by omega)))) (fun _ => et_not (et_B (ev_sN (x := .int (es.length : Int)) (ev_is (ev_lenB (ev_var rfl) B (by omega)) (by rw [le])) (ev_is (ev_len (ev_var rfl) (sq_of tab.num)) (by rw [List.length_map, lm])) rfl))))) rfl) (fun z => by cases z) (fun _ H1 e1 => ?_)
    have B := B.mono e1
    have tab := tab.mono e1
    obtain ⟨N, od⟩ := ord_any (allNames ((es.map Rc.ent).map (·.2)))
    have lN : N.length ≤ 12 := Nat.le_trans (perm_len_le od.nd fun x hx => (putL_mem).mpr ((od.mem x).mp hx)) n12
    refine q_when (b := false) (et_is (et_or (et_not (et_B (ev_sN (x := .int (last + 1)) (ev_nextB (ev_var rfl) B) (ev_var rfl) rfl))) (fun _ => et_not (et_B (ev_sNUU (n := 1) (L := N) (eu_namesB (ev_var rfl) B (by omega) od) (eu_tupL (el_call (ea_cons (ev_var rfl) ea_nil) fun H2 e2 Q q E => ?_)) (by omega))))) rfl) (fun z => by cases z) (fun _ H2 e2 => ?_)
    · refine ⟨lr, es.map Rc.row, rfl, ?_, fun x m => ?_, by omega, fun N' od' p H3 np e3 hp => ?_⟩
      · rw [(tab.mono e2).rows, List.map_map]
        rfl
      · obtain ⟨e, me, rfl⟩ := List.mem_map.mp m
        exact ⟨(tab.mono e2).each e me, (o.row e me).1.lit⟩
      · rw [od'.uniq od (o.memR)] at hp
        exact q p H3 np e3 hp
    have B := B.mono e2
    have tab := tab.mono e2
    have e3 := Ex.refl H2
    refine q_dues (K := K) (ln := ln) (last := last) (ev_var rfl) tab o (fun _ => rfl) (fun _ => rfl) fun Dd H4 t e4 hD ht => ?_
    have B := B.mono e4
    have tab := tab.mono e4
    have cho : ∀ i : Nat, ∃ p : Addr, ∀ e, es[i]? = some e → ∃ dx, H4 e.a = some (.ins T.C_Clause dx [("literals", .ref p)]) ∧ H4 p = some (.tup (e.D.map V.str)) := fun i => by
      cases he : es[i]? with
      | none => exact ⟨0, fun e h => nomatch h⟩
      | some e =>
        obtain ⟨⟨dx, p, h1, h2⟩, _⟩ := B.cls (e.a, e.D) (by rw [List.map_map]; exact List.mem_map.mpr ⟨e, List.mem_of_getElem? he, rfl⟩)
        exact ⟨p, fun e' h => by cases h; exact ⟨dx, h1, h2⟩⟩
    obtain ⟨p, hp⟩ := Classical.axiomOfChoice cho
    have lI : ((es.map Rc.n).map V.int).length = es.length := by rw [List.length_map, lm]
    refine s_ret (v := .bl true) (ev_sLits (k := 0) (n := es.length) (p := p) (t := t) (L := fun i => match es[i]? with | some e => e.D | none => []) (lI ▸ el_lcL (K := K) (xs := (es.map Rc.n).map V.int) (fun _ => true) (fun i => V.ref (p i)) (ev_var rfl) (sq_of tab.num) (by omega) (fun _ => rfl) (fun _ _ _ _ _ => et_yes) (fun i x H5 e5 hx _ => ?_)) (ev_var rfl) hD (by omega) fun i li => ?_) fun H5 e5 => q H5 ((((e1.trans e2).trans e3).trans e4).trans e5)
    · obtain ⟨e, he, rfl⟩ : ∃ z, es[i]? = some z ∧ V.int z.n = x := by
        rw [List.map_map, List.getElem?_map] at hx
        cases e : es[i]? with
        | none => rw [e] at hx; cases hx
        | some z => rw [e] at hx; exact ⟨z, rfl, Option.some.inj hx⟩
      have me := List.mem_of_getElem? he
      obtain ⟨dx2, h1, h2⟩ := hp i e he
      exact ev_fld (ev_getB (ev_var rfl) (ev_var rfl) (o.txt me) (B.mono e5) o.keyNd (List.mem_map.mpr ⟨e, me, rfl⟩) rfl) (e5 _ _ h1) T.cl_Clause T.na_Clause_literals rfl
    · have he : es[i]? = some es[i] := List.getElem?_eq_getElem li
      obtain ⟨dx2, h1, h2⟩ := hp i _ he
      rw [he]
      exact ⟨by dsimp only; rw [rowLen (o.row _ (List.getElem_mem li))]; have := (o.row _ (List.getElem_mem li)).1.few; omega, h2, ht i _ he⟩
end
open Evl in
theorem ok__law_is_name (T : Txt P K mg) : FnOk P w K mg base CX0 1 T.f__law_is_name T.d__law_is_name ["_law_text"] spIsName := by
  refine T.F__law_is_name.ok sc__law_is_name (fun vs H Q E h => ?_) (fun cdv A outer s H vs Q E hr h => ?_)
  · obtain ⟨z, rfl, _⟩ := h
    rfl
  · obtain ⟨z, rfl, hz, q⟩ := h
    have vz : ∀ (σ : L2.St) (H : Hp), σ[0]? = some (some (V.str z)) → Ev (tVar 0) σ H (.str z) := fun σ H e => ev_var e
    refine ⟨_, (pss_cons (ps_set (i := 1) sc__law_is_name.nd rfl (.inr rfl) pe_str)
      (pss_cons (ps_if (PW.pt (pw_or (pt_cmpR op_eq (pe_callB call_len_str (by rfl) T.n_len PySem.boot_len (pa_cons (pv 0) pa_nil)) pe_int (nomark _)) (pw_or (pt_cmpR op_gt (pe_callB call_len_str (by rfl) T.n_len PySem.boot_len (pa_cons (pv 0) pa_nil)) pe_int (nomark _)) (pw_or1 (pt_cmpR op_notIn_sign (pe_item_str (pv 0) pe_int (fun _ _ => rfl)) (pv 1) (by rfl)))))) (pss_one (ps_ret pe_bl)) pss_nil)
      (pss_one (ps_ret (pe_callB (cr_all rfl) (by rfl) T.n_all (by decide +kernel) (pa_cons (pe_lc (own := [("_law_sign", 2)]) (g := gName 2) (by rfl) sc__law_is_name.nd (pi_str (pv 0)) (blkOk_by (own := [("_law_sign", 2)]) (N := N__law_is_name) (sc := defScope s__law_is_name) (by decide +kernel)) (fun _ _ _ _ _ => pg_name (i := 2) sc__law_is_name.nd rfl (Or.inl rfl)) (fun _ _ _ _ _ => pts_nil) (fun _ _ _ _ _ => (pe_or (pe_cmpR op_in_sign (pv 2) (pv 1) (by rfl)) (pe_one (pe_cmpR op_in_sign (pv 2) pe_str (by rfl)))))) pa_nil)))))), ?_⟩
    have l : z.cps.toList.length = z.cps.size := Array.length_toList
    refine q_asg ev_c (fun H0 e0 => ?_)
    have hh : ∀ c r, z.cps.toList = c :: r → z.cps[0]? = some c := fun c r hc => by
      rw [← Array.getElem?_toList, hc]
      rfl
    refine q_when (b := decide (z.cps.size = 0) || (decide (8 < z.cps.size) || !(z.cps.toList.head?.any ltr))) (et_or (et_test (ev_is (ev_op (ev_lenS (vz _ _ rfl) (by omega)) ev_c (rv_eq rfl)) ?_)) (fun h0 => et_or (et_test (ev_op (ev_lenS (vz _ _ rfl) (by omega)) ev_c (fun H1 _ Q q => ⟨_, 8, rfl, rfl, ?_⟩))) (fun h8 => et_test ?_))) (fun hb H1 e1 => ?_) (fun hb H1 e1 => ?_)
    · refine congrArg V.bl (decide_eq_decide.mpr ⟨fun x => ?_, fun x => ?_⟩)
      · have y := V.int.inj x
        omega
      · rw [x]
        rfl
    · have e : decide ((8 : Int) < (z.cps.size : Int)) = decide (8 < z.cps.size) := decide_eq_decide.mpr (by omega)
      show Q (.bl (decide ((8 : Int) < (z.cps.size : Int)))) H1
      rw [e]
      exact q H1 (Ex.refl H1)
    · have n0 : z.cps.size ≠ 0 := of_decide_eq_false h0
      obtain ⟨c, r, hc⟩ : ∃ c r, z.cps.toList = c :: r := by
        cases e : z.cps.toList with
        | nil => rw [e] at l; simp at l; omega
        | cons c r => exact ⟨c, r, rfl⟩
      refine ev_is (ev_op (ev_op (vz _ _ rfl) ev_c (rv_itemS (i := 0) (hh c r hc) (by omega))) (ev_var rfl) rv_notInS) ?_
      rw [hc]
      rfl
    · refine s_ret (v := .bl (isName z)) (ev_is ev_c ?_) (fun H2 e2 => q H2 ((e0.trans e1).trans e2))
      unfold isName nameL
      rw [l]
      refine congrArg V.bl ?_
      by_cases h0 : z.cps.size = 0
      · rw [h0]
        rfl
      · by_cases h8 : 8 < z.cps.size
        · rw [decide_eq_false (show ¬ z.cps.size ≤ 8 by omega), Bool.false_and, Bool.and_false]
        · rw [decide_eq_false h0, decide_eq_false h8] at hb
          have hb2 : z.cps.toList.head?.any ltr = false := by simpa using hb
          rw [hb2, Bool.false_and, Bool.and_false, Bool.and_false]
    · rw [Bool.or_eq_false_iff, Bool.or_eq_false_iff] at hb
      obtain ⟨h0, h8, hl⟩ := hb
      have n0 : z.cps.size ≠ 0 := of_decide_eq_false h0
      have n8 : ¬ 8 < z.cps.size := of_decide_eq_false h8
      have hl2 : z.cps.toList.head?.any ltr = true := by simpa using hl
      refine s_ret (v := .bl (isName z)) (ev_is (ev_all (bs := z.cps.toList.map lod) ?_) ?_) (fun H2 e2 => q H2 ((e0.trans e1).trans e2))
      · rw [List.map_map]
        refine el_lcS (f := fun c => V.bl (lod c)) (vz _ _ rfl) (by omega) (fun _ => rfl) (fun c H2 e2 hm => ?_)
        refine ev_is (ev_orV (a := ltr c) (b := dig c) (ev_op (ev_var rfl) (ev_var rfl) rv_inS) (fun _ => ev_op (ev_var rfl) ev_c rv_inS)) ?_
        rw [lod_eq]
      · unfold isName nameL
        rw [l, decide_eq_true (show 1 ≤ z.cps.size by omega), decide_eq_true (show z.cps.size ≤ 8 by omega), hl2, List.all_map]
        rfl
section
open Evl
theorem lt_units {n k : Nat} (h : n + 16 * k + 200 < cLine) : n + 64 < cLine := by omega
/-- any(list) -/
theorem ev_anyV {σ : L2.St} {H : Hp} {tl : TE} {bs : List Bool} {b : Bool} (h : EvL tl σ H (bs.map V.bl)) (e : bs.any id = b) : Ev (tCB (rAny K) (tCons tl tNil)) σ H (.bl b) := fun H1 e1 Q q =>
  h H1 e1 _ fun p H2 _ e2 hp => ⟨p, bs, rfl, sq_of hp, by rw [e]; exact q H2 e2⟩
/-- _law_row_of(text) -/
def spRowOf : Sp := fun vs H Q _ => ∃ z : Str, vs = [.str z] ∧ Txt8 260 z ∧ (Good z → RetL ((litsOf z).map V.str) H Q) ∧ (¬ Good z → ∀ H', Ex H H' → Q .non H')
theorem ok__law_row_of (T : Txt P K mg) : FnOk P w K mg base CX0 9 T.f__law_row_of T.d__law_row_of ["_law_text"] spRowOf := by
  refine T.F__law_row_of.ok sc__law_row_of (fun vs H Q E h => ?_) (fun cdv A outer s H vs Q E hr h => ?_)
  · obtain ⟨z, rfl, _⟩ := h
    rfl
  · obtain ⟨z, rfl, t, good, bad⟩ := h
    have hu := hr.un
    refine ⟨_, (pss_cons (ps_if (pt_cmpR op_eq (pv 0) pe_str (nomark _)) (pss_one (ps_ret (pe_lst pa_nil))) pss_nil)
      (pss_cons (ps_set (i := 1) sc__law_row_of.nd rfl (.inr rfl) (pe_bm PySem.F.plainAttrs_str PySem.F.slot_str_split PySem.F.type_str_split mt_split (pv 0) (pa_cons pe_str pa_nil)))
      (pss_cons (ps_if (PW.pt (pw_or (pt_cmpR op_gt (pe_callB call_len_seq (by rfl) T.n_len PySem.boot_len (pa_cons (pv 1) pa_nil)) pe_int (nomark _)) (pw_or1 (pt_not (pt_val (pe_callB (cr_all rfl) (by rfl) T.n_all (by decide +kernel) (pa_cons (pe_lc (own := [("_law_literal", 2)]) (g := gName 2) (by rfl) sc__law_row_of.nd (pi_list (pv 1)) (blkOk_by (own := [("_law_literal", 2)]) (N := N__law_row_of) (sc := defScope s__law_row_of) (by decide +kernel)) (fun _ _ _ _ _ => pg_name (i := 2) sc__law_row_of.nd rfl (Or.inl rfl)) (fun _ _ _ _ _ => pts_nil) (fun _ _ _ _ _ => (pe_call (ok__law_is_name T) (hr.mono (by decide)) rfl T.g__law_is_name T.F__law_is_name.kp T.b__law_is_name .nil pass0 (pa_cons (pe_call (ok__law_name T) (hr.mono (by decide)) rfl T.g__law_name T.F__law_name.kp T.b__law_name .nil pass0 (pa_cons (pv 2) pa_nil)) pa_nil)))) pa_nil))))))) (pss_one (ps_ret pe_non)) pss_nil)
      (pss_cons (ps_if (PW.pt (pw_or (pt_cmpR (op_neLL (by exact lt_units (k := 8) hu)) (pv 1) (pe_call (ok__law_ordered T) (hr.mono (by decide)) rfl T.g__law_ordered T.F__law_ordered.kp T.b__law_ordered .nil pass0 (pa_cons (pv 1) pa_nil)) (nomark _)) (pw_or1 (pt_val (pe_callB (cr_any rfl) (by rfl) T.n_any (by decide +kernel) (pa_cons (pe_lc (own := [("_law_literal", 2)]) (g := gName 2) (te := tOp (rIn K false) (tCall (spPure fun z => .str (flip z)) [] E0 (tCons (tVar 2) tNil)) (tVar 1)) (by rfl) sc__law_row_of.nd (pi_list (pv 1)) (blkOk_by (own := [("_law_literal", 2)]) (N := N__law_row_of) (sc := defScope s__law_row_of) (by decide +kernel)) (fun _ _ _ _ _ => pg_name (i := 2) sc__law_row_of.nd rfl (Or.inl rfl)) (fun _ _ _ _ _ => pts_nil) (fun _ _ _ _ _ => (pe_cmpR op_in_seq (pe_call (ok__law_flip T) (hr.mono (by decide)) rfl T.g__law_flip T.F__law_flip.kp T.b__law_flip .nil pass0 (pa_cons (pv 2) pa_nil)) (pv 1) (by rfl)))) pa_nil)))))) (pss_one (ps_ret pe_non)) pss_nil)
      (pss_one (ps_ret (pv 1))))))), ?_⟩
    refine q_when (b := decide (z = "0")) (et_is (et_test (ev_op (ev_var rfl) ev_c (rv_eq rfl))) ?_) (fun c H1 e1 => ?_) (fun c H1 e1 => ?_)
    · exact decide_eq_decide.mpr ⟨fun e => V.str.inj e, fun e => congrArg V.str e⟩
    · have ez : z = "0" := of_decide_eq_true c
      subst ez
      have g := good good_zero
      rw [show litsOf "0" = [] from if_pos rfl] at g
      exact s_retL (el_lst ea_nil (by decide)) fun p H2 np e2 hp => g p H2 (fresh_back e1 np) (e1.trans e2) hp
    · have nz : z ≠ "0" := of_decide_eq_false c
      have hL : litsOf z = Txt.split z sepC := if_neg nz
      have few := parts_few t
      refine q_asgL (el_split (ev_var rfl) t (by decide)) (fun p H2 np e2 hp => ?_)
      have pt := fun y (m : y ∈ Txt.split z sepC) => part_txt t m
      generalize eD : Txt.split z sepC = D at *
      refine q_when (b := decide (6 < D.length) || !(D.all fun y => isName (bare y))) (et_or (et_test (ev_is (ev_op (ev_len (ev_var rfl) (sq_of hp)) ev_c (fun H3 _ Q q => ⟨_, 6, rfl, rfl, q H3 (Ex.refl H3)⟩)) ?_)) (fun _ => et_not (et_B (ev_allV (bs := D.map fun y => isName (bare y)) ?_ ?_)))) (fun c2 H3 e3 => ?_) (fun c2 H3 e3 => ?_)
      · rw [List.length_map]
        exact congrArg V.bl (decide_eq_decide.mpr (by omega))
      · rw [← all_map]
        exact el_fmV (K := K) (fun _ => true) (fun y => V.bl (isName (bare y))) (ev_var rfl) hp (by omega) (fun _ => rfl) (fun _ _ _ _ => et_yes) fun y m _ H4 e4 => ev_call (ea_cons (ev_call (z := .str (bare y)) (ea_cons (ev_var rfl) ea_nil) fun H5 e5 Q q E => ⟨y, rfl, (pt y m).1, q⟩) ea_nil) fun H5 e5 Q q E => ⟨bare y, rfl, Nat.le_trans (bare_len y) (Nat.le_trans (pt y m).1 (by decide)), q⟩
      · rw [List.all_map]
        rfl
      · refine s_ret ev_c fun H4 e4 => bad (fun g => ?_) H4 (((e1.trans e2).trans e3).trans e4)
        have l := g.row.few
        have i := g.row.lit
        rw [hL] at l i
        rw [decide_eq_false (by omega), Bool.false_or, Bool.not_eq_true'] at c2
        rw [show (D.all fun y => isName (bare y)) = true from List.all_eq_true.mpr fun y m => i y m] at c2
        cases c2
      · rw [Bool.or_eq_false_iff, Bool.not_eq_false'] at c2
        have l6 : D.length ≤ 6 := by have := of_decide_eq_false c2.1; omega
        have lit : ∀ y ∈ D, isLit y = true := fun y m => List.all_eq_true.mp c2.2 y m
        obtain ⟨N, od⟩ := ord_any (D.map bare)
        have asD : Asc D := fun y m => (pt y m).2
        have asO : Asc (due D N) := fun y m => (pt y ((due_mem od y).mp m)).2
        have e123 := (e1.trans e2).trans e3
        have hp3 := e3 _ _ hp
        refine q_when (b := !decide (D = due D N) || D.any fun y => decide (flip y ∈ D)) (et_or (et_test (ev_opL (xs := (due D N).map V.str) (ev_var rfl) (el_call (ea_cons (ev_var rfl) ea_nil) ?_) (fun q H4 hq e4 => ?_))) (fun _ => et_B (ev_anyV (bs := D.map fun y => decide (flip y ∈ D)) ?_ ?_))) (fun c3 H4 e4 => ?_) (fun c3 H4 e4 => ?_)
        · exact fun H4 e4 Q q E => ⟨p, D, rfl, e4 _ _ hp3, by omega, fun y m => Nat.le_trans (lit_txt (lit y m)).1 (by decide), fun N' od' => by rw [od'.uniq od fun _ => Iff.rfl]; exact q⟩
        · exact fun H5 e5 Q q2 => ⟨p, q, D, due D N, rfl, rfl, sq_of (e5 _ _ (e4 _ _ hp3)), sq_of (e5 _ _ hq), asD, asO, q2 H5 (Ex.refl H5)⟩
        · rw [← all_map]
          exact el_fmV (K := K) (fun _ => true) (fun y => V.bl (decide (flip y ∈ D))) (ev_var rfl) hp3 (by omega) (fun _ => rfl) (fun _ _ _ _ => et_yes) fun y m _ H4 e4 => ev_is (ev_op (ev_call (z := .str (flip y)) (ea_cons (ev_var rfl) ea_nil) fun H5 e5 Q q E => ⟨y, rfl, (pt y m).1, q⟩) (ev_var rfl) (rv_isL (K := K) (sq_of (e4 _ _ hp3)) rfl (flat_str _))) (congrArg V.bl in_map)
        · rw [List.any_map]
          rfl
        · refine s_ret ev_c fun H5 e5 => bad (fun g => ?_) H5 ((e123.trans e4).trans e5)
          have o := g.ord N (by rw [hL]; exact od)
          have r := g.row
          rw [hL] at o r
          rw [decide_eq_true o.symm, Bool.not_true, Bool.false_or, List.any_eq_true] at c3
          obtain ⟨y, m, f⟩ := c3
          rw [flip_in m (name_dash (lit_bare (lit y m))), r.one] at f
          cases f
        · rw [Bool.or_eq_false_iff, Bool.not_eq_false'] at c3
          have o : D = due D N := of_decide_eq_true c3.1
          have one : N.find? (bothIn D) = none := List.find?_eq_none.mpr fun n hn => by
            obtain ⟨y, m, ey⟩ := List.mem_map.mp ((od.mem n).mp hn)
            have f := List.any_eq_false.mp c3.2 y m
            rw [flip_in m (name_dash (lit_bare (lit y m))), ey] at f
            exact f
          have g : Good z := (good_iff nz (by rw [eD]; exact od) (by rw [eD]; exact lit) (by rw [eD]; exact one) (by rw [eD, ← o]; exact l6)).mpr (by
            rw [eD, ← o]
            have ne := parts_ne z
            rw [eD] at ne
            unfold ctext
            rw [if_neg ne, ← eD]
            exact parts_join z)
          have gd := good g
          rw [hL] at gd
          exact s_ret (ev_var rfl) fun H5 e5 => gd p H5 (fresh_back e1 np) (e1.trans ((e2.trans e3).trans (e4.trans e5))) (e5 _ _ (e4 _ _ hp3))
end
section
open Evl
def lead (l : List Nat) : Bool := decide (l = [48]) || !decide (l.head? = some 48)
theorem val_ge : ∀ (l : List Nat) (a : Nat), a ≤ l.foldl (fun acc c => acc * 10 + (c - 48)) a
  | [], a => Nat.le_refl _
  | c :: r, a => Nat.le_trans (by show a ≤ a * 10 + (c - 48); omega) (val_ge r (a * 10 + (c - 48)))
theorem val_pos {c : Nat} {r : List Nat} (h : 48 ≤ c) (n : c ≠ 48) : 1 ≤ NumText.digitsVal (c :: r) := by
  have z := val_ge r (0 * 10 + (c - 48))
  show 1 ≤ r.foldl _ (0 * 10 + (c - 48))
  omega
theorem val_snoc (l : List Nat) (d : Nat) : NumText.digitsVal (l ++ [d]) = NumText.digitsVal l * 10 + (d - 48) := by
  unfold NumText.digitsVal
  rw [List.foldl_append]
  rfl
theorem canon : ∀ (n : Nat) (l : List Nat), l.length = n → l ≠ [] → NumText.AllDigits l → lead l = true → l = TL.numL (NumText.digitsVal l)
  | 0, l, hn, hne, _, _ => absurd (List.length_eq_zero_iff.mp hn) hne
  | 1, l, hn, _, hd, _ => by
    match l, hn with
    | [d], _ =>
      have r := hd d (by simp)
      have e : NumText.digitsVal [d] = d - 48 := by
        unfold NumText.digitsVal
        simp
      rw [e, TL.numL_lt (by omega)]
      congr 1
      omega
  | n + 2, l, hn, hne, hd, hl => by
    obtain ⟨i, d, rfl⟩ : ∃ i d, l = i ++ [d] := ⟨l.dropLast, l.getLast hne, (List.dropLast_concat_getLast hne).symm⟩
    have hi : i.length = n + 1 := by
      rw [List.length_append] at hn
      simp at hn
      omega
    obtain ⟨c, r, rfl⟩ : ∃ c r, i = c :: r := by
      match i, hi with
      | c :: r, _ => exact ⟨c, r, rfl⟩
    have hc := hd c (by simp)
    have n48 : c ≠ 48 := fun e => by
      subst e
      unfold lead at hl
      rw [Bool.or_eq_true, decide_eq_true_eq] at hl
      rcases hl with hl | hl
      · simp at hl
      · simp at hl
    have hdi : NumText.AllDigits (c :: r) := fun x hx => hd x (List.mem_append_left _ hx)
    have ih := canon (n + 1) (c :: r) hi (by simp) hdi (by
      unfold lead
      rw [Bool.or_eq_true]
      right
      simp [n48])
    have hp := val_pos (r := r) hc.1 n48
    have hdd := hd d (by simp)
    rw [val_snoc]
    have a1 : (NumText.digitsVal (c :: r) * 10 + (d - 48)) / 10 = NumText.digitsVal (c :: r) := by omega
    have a2 : (NumText.digitsVal (c :: r) * 10 + (d - 48)) % 10 = d - 48 := by omega
    rw [TL.numL_step (by omega), a1, a2, ← ih]
    congr 2
    omega
theorem numL_head : ∀ (n : Nat), 1 ≤ n → (TL.numL n).head? ≠ some 48 := by
  intro n
  induction n using Nat.strongRecOn with
  | _ n ih =>
    intro h
    by_cases h10 : n < 10
    · rw [TL.numL_lt h10]
      simp
      omega
    · rw [TL.numL_step (by omega)]
      have z := ih (n / 10) (by omega) (by omega)
      cases e : TL.numL (n / 10) with
      | nil => exact absurd e (TL.numL_ne _)
      | cons c r =>
        rw [e] at z
        exact z
/-- the number that the law reads in a word: 0 where it is none -/
def numOf (l : List Nat) : Int := match numLine l with | some k => (k : Int) | none => 0
theorem dig_dgt (c : Nat) : dig c = dgt c := by
  unfold dig dgt
  have e : ("0123456789" : Str).cps.toList = [48, 49, 50, 51, 52, 53, 54, 55, 56, 57] := by decide
  rw [e]
  by_cases h : 48 ≤ c ∧ c ≤ 57
  · have m : c = 48 ∨ c = 49 ∨ c = 50 ∨ c = 51 ∨ c = 52 ∨ c = 53 ∨ c = 54 ∨ c = 55 ∨ c = 56 ∨ c = 57 := by omega
    rw [decide_eq_true h.1, decide_eq_true h.2]
    refine decide_eq_true ?_
    simp only [List.mem_cons, List.not_mem_nil, or_false]
    exact m
  · have z : (decide (48 ≤ c) && decide (c ≤ 57)) = false := by
      rw [← Bool.decide_and]
      exact decide_eq_false h
    rw [z]
    refine decide_eq_false fun m => h ?_
    simp only [List.mem_cons, List.not_mem_nil, or_false] at m
    omega
def spNumOf : Sp := fun vs H Q _ => ∃ l : List Nat, vs = [.str (SX.S l)] ∧ l.length ≤ 600 ∧ ∀ H', Ex H H' → Q (.int (numOf l)) H'
theorem ok__law_number_of (T : Txt P K mg) : FnOk P w K mg base CX0 1 T.f__law_number_of T.d__law_number_of ["_law_text"] spNumOf := by
  refine T.F__law_number_of.ok sc__law_number_of (fun vs H Q E h => ?_) (fun cdv A outer s H vs Q E hr h => ?_)
  · obtain ⟨l, rfl, _⟩ := h
    rfl
  · obtain ⟨l, rfl, len, q⟩ := h
    refine ⟨_, (pss_cons (ps_if (PW.pt (pw_or (pt_cmpR op_eq (pe_callB call_len_str (by rfl) T.n_len PySem.boot_len (pa_cons (pv 0) pa_nil)) pe_int (nomark _)) (pw_or (pt_cmpR op_gt (pe_callB call_len_str (by rfl) T.n_len PySem.boot_len (pa_cons (pv 0) pa_nil)) pe_int (nomark _)) (pw_or (pt_cmpR op_eq (pe_item_str (pv 0) pe_int (fun _ _ => rfl)) pe_str (nomark _)) (pw_or1 (pt_not (pt_val (pe_callB (cr_all rfl) (by rfl) T.n_all (by decide +kernel) (pa_cons (pe_lc (own := [("_law_sign", 1)]) (g := gName 1) (by rfl) sc__law_number_of.nd (pi_str (pv 0)) (blkOk_by (own := [("_law_sign", 1)]) (N := N__law_number_of) (sc := defScope s__law_number_of) (by decide +kernel)) (fun _ _ _ _ _ => pg_name (i := 1) sc__law_number_of.nd rfl (Or.inl rfl)) (fun _ _ _ _ _ => pts_nil) (fun _ _ _ _ _ => (pe_cmpR op_in_sign (pv 1) pe_str (by rfl)))) pa_nil))))))))) (pss_one (ps_ret pe_int)) pss_nil)
      (pss_one (ps_ret (pe_callTy call_int_str (by rfl) T.n_int (by decide +kernel) (pa_cons (pv 0) pa_nil))))), ?_⟩
    have sz : (SX.S l).cps.size = l.length := by show l.toArray.size = _; exact List.size_toArray
    have vz : ∀ (σ : L2.St) (H : Hp), σ[0]? = some (some (V.str (SX.S l))) → Ev (tVar 0) σ H (.str (SX.S l)) := fun σ H e => ev_var e
    refine q_when (b := decide (l.length = 0) || (decide (3 < l.length) || (decide (l.head? = some 48) || !(l.all dgt)))) (et_or (et_test (ev_is (ev_op (ev_lenS (vz _ _ rfl) (by omega)) ev_c (rv_eq rfl)) ?_)) (fun h0 => et_or (et_test (ev_op (ev_lenS (vz _ _ rfl) (by omega)) ev_c (fun H1 _ Q q => ⟨_, 3, rfl, rfl, ?_⟩))) (fun h3 => et_or (et_test ?_) (fun h48 => et_not (et_B (ev_is (ev_all (bs := l.map dgt) ?_) ?_)))))) (fun hb H1 e1 => ?_) (fun hb H1 e1 => ?_)
    · refine congrArg V.bl (decide_eq_decide.mpr ⟨fun x => ?_, fun x => ?_⟩)
      · have y := V.int.inj x
        omega
      · rw [sz, x]
        rfl
    · have e : decide ((3 : Int) < ((SX.S l).cps.size : Int)) = decide (3 < l.length) := decide_eq_decide.mpr (by omega)
      show Q (.bl (decide ((3 : Int) < ((SX.S l).cps.size : Int)))) H1
      rw [e]
      exact q H1 (Ex.refl H1)
    · have n0 : l.length ≠ 0 := of_decide_eq_false h0
      obtain ⟨c, r, hc⟩ : ∃ c r, l = c :: r := by
        cases l with
        | nil => exact absurd rfl n0
        | cons c r => exact ⟨c, r, rfl⟩
      have hh : (SX.S l).cps[0]? = some c := by
        rw [← Array.getElem?_toList]
        show l[0]? = some c
        rw [hc]
        rfl
      refine ev_is (ev_op (ev_op (vz _ _ rfl) ev_c (rv_itemS (i := 0) hh (by omega))) ev_c (rv_eq rfl)) ?_
      refine congrArg V.bl (decide_eq_decide.mpr ⟨fun x => ?_, fun x => ?_⟩)
      · have y := congrArg (fun s : Str => s.cps.toList) (V.str.inj x)
        have y2 : [c] = [48] := y
        rw [hc]
        exact congrArg some (List.cons.inj y2).1
      · rw [hc] at x
        obtain rfl : c = 48 := Option.some.inj x
        exact congrArg V.str (str_eq rfl)
    · rw [List.map_map]
      refine el_lcS (f := fun c => V.bl (dgt c)) (vz _ _ rfl) (by omega) (fun _ => rfl) (fun c H2 e2 hm => ?_)
      refine ev_is (ev_op (ev_var rfl) ev_c rv_inS) ?_
      exact congrArg V.bl (dig_dgt c)
    · rw [List.all_map]
      rfl
    · refine s_ret (v := .int (numOf l)) (ev_is ev_c ?_) (fun H2 e2 => q H2 (e1.trans e2))
      unfold numOf numLine
      by_cases h0 : l.length = 0
      · have z := List.length_eq_zero_iff.mp h0
        subst z
        rfl
      · by_cases ha : (!l.isEmpty && l.all dgt) = true
        · rw [if_pos ha]
          by_cases h3 : l.length ≤ 3
          · rw [if_pos h3]
            by_cases hn : TL.numL (NumText.digitsVal l) = l
            · rw [if_pos hn]
              rw [Bool.and_eq_true] at ha
              rw [decide_eq_false h0, decide_eq_false (show ¬ 3 < l.length by omega), ha.2] at hb
              have hd : l.head? = some 48 := by simpa using hb
              have z : NumText.digitsVal l = 0 := by
                refine Nat.eq_zero_of_not_pos fun pos => numL_head _ pos ?_
                rw [hn]
                exact hd
              show V.int 0 = V.int ((NumText.digitsVal l : Nat) : Int)
              rw [z]
              rfl
            · rw [if_neg hn]
          · rw [if_neg h3]
        · rw [if_neg ha]
    · rw [Bool.or_eq_false_iff, Bool.or_eq_false_iff, Bool.or_eq_false_iff] at hb
      obtain ⟨h0, h3, h48, ha⟩ := hb
      have n0 := of_decide_eq_false h0
      have n3 := of_decide_eq_false h3
      have n48 := of_decide_eq_false h48
      have ad : l.all dgt = true := by simpa using ha
      have ne : l ≠ [] := fun e => n0 (by rw [e]; rfl)
      have hd : (!l.isEmpty && l.all dgt) = true := by
        rw [ad]
        cases l with
        | nil => exact absurd rfl ne
        | cons => rfl
      have cn := canon _ l rfl ne (all_dgt.mp ad) (by unfold lead; rw [decide_eq_false n48]; simp)
      refine s_ret (v := .int (numOf l)) (ev_is (ev_intD (l := l) (vz _ _ rfl) hd (by omega)) ?_) fun H2 e2 => q H2 (e1.trans e2)
      unfold numOf numLine
      rw [if_pos hd, if_pos (show l.length ≤ 3 by omega), if_pos cn.symm]
end
section
open Evl
theorem rd_uniq {R : List Str} {xs ys : List Ln} (h : RdTo R xs) (h2 : RdTo R ys) (l : xs.length ≤ ys.length) : xs = ys.take xs.length := by
  refine List.ext_getElem (by rw [List.length_take]; omega) fun i h1 h3 => ?_
  rw [List.getElem_take]
  obtain ⟨k, e, p⟩ := h.each i h1
  obtain ⟨k', e', p'⟩ := h2.each i (by omega)
  obtain ⟨u1, u2⟩ := p.uniq p'
  exact Prod.ext (by rw [e, e', u1]) u2
theorem kgood_take {xs : List Ln} (h : KGood xs) (i : Nat) : KGood (xs.take i) := fun j hj => by
  have hx : j < xs.length := by rw [List.length_take] at hj; omega
  have hi : j < i := by rw [List.length_take] at hj; omega
  have z := h j hx
  rw [List.getElem_take, List.take_take, List.take_take, Nat.min_eq_left (by omega), Nat.min_eq_left (by omega)]
  exact z
theorem rd_take {R : List Str} {xs : List Ln} (h : RdTo R xs) (i : Nat) : RdTo R (xs.take i) :=
  ⟨by rw [List.length_take]; have := h.le; omega, fun j hj => by
    obtain ⟨k, e, p⟩ := h.each j (by rw [List.length_take] at hj; omega)
    rw [List.getElem_take]
    exact ⟨k, e, p⟩, kgood_take h.good i⟩
theorem kgood_snoc {xs : List Ln} {y : Ln} : KGood (xs ++ [y]) ↔ KGood xs ∧ lastK xs < y.1 ∧ y.1 ≤ 999 ∧ xs.length < 24 ∧ (putL ((xs ++ [y]).flatMap fun x => x.2.map bare)).length ≤ 12 := by
  have ll : (xs ++ [y]).length = xs.length + 1 := by simp
  constructor
  · intro g
    have gx := kgood_take g xs.length
    rw [List.take_left'  rfl] at gx
    have z := g xs.length (by omega)
    rw [List.take_left' rfl, List.take_of_length_le (by omega)] at z
    have e : (xs ++ [y])[xs.length]'(by omega) = y := by
      rw [List.getElem_append_right (by omega)]
      simp
    rw [e] at z
    exact ⟨gx, z.1, z.2.1, z.2.2.1, z.2.2.2⟩
  · rintro ⟨gx, z1, z2, z3, z4⟩ j hj
    by_cases lt : j < xs.length
    · rw [List.getElem_append_left lt, List.take_append_of_le_length (by omega), List.take_append_of_le_length (by omega)]
      exact gx j lt
    · have e : j = xs.length := by omega
      subst e
      have e : (xs ++ [y])[xs.length]'hj = y := by
        rw [List.getElem_append_right (by omega)]
        simp
      rw [e, List.take_left' rfl, List.take_of_length_le (by omega)]
      exact ⟨z1, z2, z3, z4⟩
theorem lastK_snoc (xs : List Ln) (y : Ln) : lastK (xs ++ [y]) = y.1 := by
  unfold lastK
  rw [List.getLast?_append]
  rfl
theorem lastK_nn : ∀ (n : Nat) (xs : List Ln), xs.length = n → KGood xs → 0 ≤ lastK xs
  | 0, xs, h, _ => by
    have z := List.length_eq_zero_iff.mp h
    subst z
    exact Int.le_refl 0
  | n + 1, xs, h, g => by
    obtain ⟨ys, y, rfl⟩ : ∃ ys y, xs = ys ++ [y] := by
      rcases List.eq_nil_or_concat xs with e | ⟨ys, y, e⟩
      · rw [e] at h; cases h
      · exact ⟨ys, y, by rw [e, List.concat_eq_append]⟩
    have z := kgood_snoc.mp g
    have ih := lastK_nn n ys (by rw [List.length_append] at h; simpa using h) z.1
    rw [lastK_snoc]
    omega
theorem not_good_nil : ¬ Good (SX.S []) := fun g => by
  have e : SX.S [] = ("" : Str) := str_eq rfl
  rw [e] at g
  have l : litsOf "" = Txt.split "" sepC := if_neg (by decide)
  have r := g.row.lit
  rw [l] at r
  cases h : Txt.split "" sepC with
  | nil => exact parts_ne "" h
  | cons y ys =>
    have m : y ∈ Txt.split "" sepC := by rw [h]; exact List.mem_cons_self
    have t : Txt8 0 y := part_txt ⟨by decide, by decide⟩ m
    have z : y = "" := str_eq (by
      have s : y.cps.toList.length = y.cps.size := Array.length_toList
      have s0 : y.cps.toList = [] := List.length_eq_zero_iff.mp (by have := t.1; omega)
      rw [s0]
      rfl)
    have ly := r y m
    rw [z] at ly
    exact absurd ly (by decide)
/-- a line, cut at its first blank -/
theorem parts_of {z : Str} {n : Nat} (t : Txt8 n z) : ∃ (p : List Nat) (m : Str) (q : List Nat), Txt.partition z " " = (SX.S p, m, SX.S q) ∧ p.length ≤ n ∧ Txt8 n (SX.S q) ∧ (∀ k D, PairOf z k D → numLine p = some k ∧ Good (SX.S q) ∧ D = litsOf (SX.S q)) ∧ (∀ k, numLine p = some k → Good (SX.S q) → PairOf z k (litsOf (SX.S q))) := by
  have zz : z.cps.toList.length = z.length := by simp [Str.length]
  have zl : z.length ≤ n := t.1
  rcases cutB z.cps.toList with h | ⟨p, q, el, h⟩
  · have hp : TL.par [32] [] z.cps.toList = none := TL.par_none1 h
    have e : Txt.partition z " " = (z, SX.S [], SX.S []) := SX.partition_none (a := z.cps.toList) (b := [32]) (by simp) hp
    exact ⟨z.cps.toList, SX.S [], [], e, by omega, ⟨Nat.zero_le _, (fun c hc => nomatch hc)⟩, (fun k D ⟨p', q', e1, _⟩ => by rw [hp] at e1; cases e1), (fun k _ g => absurd g not_good_nil)⟩
  · have hp : TL.par [32] [] z.cps.toList = some (p, q) := by rw [el]; exact TL.par_part1 (S := []) (acc := []) h
    have e : Txt.partition z " " = (SX.S p, SX.S [32], SX.S q) := SX.partition_some (a := z.cps.toList) (b := [32]) (by simp) hp
    have le := congrArg List.length el
    rw [List.length_append, List.length_cons] at le
    refine ⟨p, SX.S [32], q, e, by omega, ⟨?_, fun c hc => t.2 c (by rw [el]; exact List.mem_append_right _ (List.mem_cons_of_mem _ hc))⟩, fun k D ⟨p', q', e1, e2, g, eD⟩ => ?_, fun k e2 g => ⟨p, q, hp, e2, g, rfl⟩⟩
    · have e2 : (SX.S q).cps.size = q.length := by show q.toArray.size = _; exact List.size_toArray
      omega
    · rw [hp] at e1
      cases e1
      exact ⟨e2, g, eD⟩
theorem ord_len {L N : List Str} (od : Ord L N) : N.length = (putL L).length :=
  Nat.le_antisymm (perm_len_le od.nd fun x hx => (putL_mem).mpr ((od.mem x).mp hx)) (perm_len_le (putL_nd _) fun x hx => (od.mem x).mpr ((putL_mem).mp hx))
theorem ev_lenN {σ : L2.St} {H : Hp} {te : TE} {xs : List V} (h : EvL te σ H xs) : Ev (tCB (rLenS K) (tCons te tNil)) σ H (.int (xs.length : Int)) := fun H1 e Q q =>
  h H1 e _ fun p H2 np e2 hp => (ev_len (K := K) (σ := σ) (ta := tC (.ref p)) ev_c (SqL.of hp)) H2 (Ex.refl H2) Q fun H3 e3 => q H3 (e2.trans e3)
theorem flat6 {α : Type} {es : List α} (f : α → List Str) (h : ∀ e ∈ es, (f e).length ≤ 6) : (es.flatMap f).length ≤ 6 * es.length := by
  induction es with
  | nil => simp
  | cons a r ih =>
    rw [List.flatMap_cons, List.length_append, List.length_cons]
    have h1 := h a List.mem_cons_self
    have h2 := ih fun e m => h e (List.mem_cons_of_mem _ m)
    omega
theorem el_namesN {σ : L2.St} {H : Hp} {te : TE} {rs : List (Addr × List Str)} {N : List Str} {E : XK} (h : EvL te σ H (rs.map fun x => V.ref x.1)) (ra : RowsAt H rs) (few : (rowNames rs).length ≤ 150) (od : Ord (rowNames rs) N) : EvL (tCall spNamesIn [] E (tCons te tNil)) σ H (N.map V.str) := fun H1 e1 Q q =>
  h H1 e1 _ fun p H2 np e2 hp => ⟨p, rs, rfl, hp, ra.mono (e1.trans e2), few, fun N' od' r H3 nr e3 hr => q r H3 (fresh_back e2 nr) (e2.trans e3) (by rw [od.uniq od' fun _ => Iff.rfl]; exact hr)⟩
theorem last_at {xs : List (Int × Addr × List Str)} (h : 0 < xs.length) : ((xs.map (·.1)).map V.int)[xs.length - 1]? = some (.int (lastK (xs.map fun x => (x.1, x.2.2)))) := by
  have lt : xs.length - 1 < xs.length := by omega
  rw [List.getElem?_map, List.getElem?_map, List.getElem?_eq_getElem lt]
  unfold lastK
  rw [List.getLast?_map, List.getLast?_eq_getElem?, List.getElem?_eq_getElem lt]
  rfl
theorem q_asgRaw {te : TE} {g : TG} {tz : TS} {D : Ends} {σ : L2.St} {H : Hp} (h : te σ H fun x H1 => g x σ H1 fun σ' H' => tz D σ' H') : tSeq (tAsg te g) tz D σ H := h
abbrev Rx := Int × Addr × List Str
def lnx (x : Rx) : Ln := (x.1, x.2.2)
/-- the lines that were judged well -/
structure Jst (R : List Str) (H : Hp) (nl rl lp : Addr) (prs : List Rx) (H' : Hp) : Prop where
  ex : Ex H H'
  hn : H' nl = some (.lst ((prs.map (·.1)).map V.int))
  hr : H' rl = some (.lst (prs.map fun x => V.ref x.2.1))
  each : ∀ x ∈ prs, H' x.2.1 = some (.lst (x.2.2.map V.str)) ∧ x.2.1 ≠ nl ∧ x.2.1 ≠ rl
  hl : H' lp = some (.lst (R.map V.str))
  rd : RdTo R (prs.map lnx)
theorem Jst.ex2 {R : List Str} {H H' H2 : Hp} {nl rl lp : Addr} {prs : List Rx} (s : Jst R H nl rl lp prs H') (e : Ex H' H2) : Jst R H nl rl lp prs H2 :=
  ⟨s.ex.trans e, e _ _ s.hn, e _ _ s.hr, fun x m => ⟨e _ _ (s.each x m).1, (s.each x m).2⟩, e _ _ s.hl, s.rd⟩
def spJudged : Sp := fun vs H Q _ => ∃ z : Str, vs = [.str z] ∧ z.length ≤ 3000 ∧ (Txt.split z "\n").length ≤ 200 ∧ (∀ y ∈ Txt.split z "\n", Txt8 260 y) ∧
  (z = "" → ∀ H' t nl rl, Ex H H' → H' t = some (.lst [.int 0, .ref nl, .ref rl]) → H' nl = some (.lst []) → H' rl = some (.lst []) → Q (.ref t) H') ∧
  (z ≠ "" → ∀ prs : List Rx, RdTo (Txt.split z "\n") (prs.map lnx) → prs.length = (Txt.split z "\n").length → ∀ H' t nl rl, Ex H H' → H' t = some (.lst [.int 0, .ref nl, .ref rl]) → H' nl = some (.lst ((prs.map (·.1)).map V.int)) → H' rl = some (.lst (prs.map fun x => V.ref x.2.1)) → (∀ x ∈ prs, H' x.2.1 = some (.lst (x.2.2.map V.str))) → Q (.ref t) H') ∧
  (z ≠ "" → ∀ xs, RdTo (Txt.split z "\n") xs → xs.length < (Txt.split z "\n").length → (∀ y, ¬ RdTo (Txt.split z "\n") (xs ++ [y])) → ∀ H' t nl rl, Ex H H' → H' t = some (.lst [.int ((xs.length : Int) + 1), .ref nl, .ref rl]) → Q (.ref t) H')
theorem ok__law_judged (T : Txt P K mg) : FnOk P w K mg base CX0 10 T.f__law_judged T.d__law_judged ["_law_text"] spJudged := by
  refine T.F__law_judged.ok sc__law_judged (fun vs H Q E h => ?_) (fun cdv A outer s H vs Q E hr h => ?_)
  · obtain ⟨z, rfl, _⟩ := h
    rfl
  · obtain ⟨z, rfl, zl, few, txt, none0, good, bad⟩ := h
    refine ⟨_, (pss_cons (ps_set (i := 1) sc__law_judged.nd rfl (.inl rfl) (pe_lst pa_nil))
      (pss_cons (ps_set (i := 2) sc__law_judged.nd rfl (.inl rfl) (pe_lst pa_nil))
      (pss_cons (ps_if (pt_cmpR op_eq (pv 0) pe_str (nomark _)) (pss_one (ps_ret (pe_lst (pa_cons pe_int (pa_cons (pv 1) (pa_cons (pv 2) pa_nil)))))) pss_nil)
      (pss_cons (ps_set (i := 3) sc__law_judged.nd rfl (.inl rfl) (pe_bm PySem.F.plainAttrs_str PySem.F.slot_str_split PySem.F.type_str_split mt_split (pv 0) (pa_cons pe_str pa_nil)))
      (pss_cons (ps_for PassesOwn.never rfl (pi_range1 rfl T.n_range (pa_cons (pe_callB call_len_seq (by rfl) T.n_len PySem.boot_len (pa_cons (pv 3) pa_nil)) pa_nil)) (pg_name (i := 4) sc__law_judged.nd rfl (.inl rfl)) (pss_cons (ps_set (i := 5) sc__law_judged.nd rfl (.inl rfl) (pe_bm PySem.F.plainAttrs_str PySem.F.slot_str_partition PySem.F.type_str_partition mt_partition (pe_ix ix_list (pv 3) (pv 4) (fun _ _ => rfl)) (pa_cons pe_str pa_nil)))
      (pss_cons (ps_set (i := 6) sc__law_judged.nd rfl (.inl rfl) (pe_call (ok__law_number_of T) (hr.mono (by decide)) rfl T.g__law_number_of T.F__law_number_of.kp T.b__law_number_of .nil pass0 (pa_cons (pe_ix (r := rIxT K) ix_tup (pv 5) pe_int (fun _ _ => rfl)) pa_nil)))
      (pss_cons (ps_set (i := 7) sc__law_judged.nd rfl (.inl rfl) (pe_call (ok__law_row_of T) (hr.mono (by decide)) rfl T.g__law_row_of T.F__law_row_of.kp T.b__law_row_of .nil pass0 (pa_cons (pe_ix (r := rIxT K) ix_tup (pv 5) pe_int (fun _ _ => rfl)) pa_nil)))
      (pss_cons (ps_if (PW.pt (pw_or (pt_cmpR op_eq (pv 6) pe_int (nomark _)) (pw_or1 (pt_cmpR op_isN (pv 7) pe_non (nomark _))))) (pss_one (ps_ret (pe_lst (pa_cons (pe_op op_add (pv 4) pe_int) (pa_cons (pv 1) (pa_cons (pv 2) pa_nil)))))) pss_nil)
      (pss_cons (ps_if (PW.pt (pw_or (pt_cmpR op_eq (pe_callB call_len_seq (by rfl) T.n_len PySem.boot_len (pa_cons (pv 1) pa_nil)) pe_int (nomark _)) (pw_or1 (pt_cmpR op_gt (pe_callB call_len_seq (by rfl) T.n_len PySem.boot_len (pa_cons (pe_call (ok__law_names_in T) (hr.mono (by decide)) rfl T.g__law_names_in T.F__law_names_in.kp T.b__law_names_in .nil pass0 (pa_cons (pe_op op_cat (pv 2) (pe_lst (pa_cons (pv 7) pa_nil))) pa_nil)) pa_nil)) pe_int (nomark _))))) (pss_one (ps_ret (pe_lst (pa_cons (pe_op op_add (pv 4) pe_int) (pa_cons (pv 1) (pa_cons (pv 2) pa_nil)))))) pss_nil)
      (pss_cons (ps_if (PW.pt (pw_and (pt_cmpR op_gt (pe_callB call_len_seq (by rfl) T.n_len PySem.boot_len (pa_cons (pv 1) pa_nil)) pe_int (nomark _)) (pw_and1 (pt_cmpR op_le (pv 6) (pe_ix ix_list (pv 1) (pe_op op_sub (pe_callB call_len_seq (by rfl) T.n_len PySem.boot_len (pa_cons (pv 1) pa_nil)) pe_int) (fun _ _ => rfl)) (nomark _))))) (pss_one (ps_ret (pe_lst (pa_cons (pe_op op_add (pv 4) pe_int) (pa_cons (pv 1) (pa_cons (pv 2) pa_nil)))))) pss_nil)
      (pss_cons (ps_expr (pe_bm PySem.F.plainAttrs_list PySem.F.slot_list_append PySem.F.type_list_append mt_append (pv 1) (pa_cons (pv 6) pa_nil)))
      (pss_one (ps_expr (pe_bm PySem.F.plainAttrs_list PySem.F.slot_list_append PySem.F.type_list_append mt_append (pv 2) (pa_cons (pv 7) pa_nil))))))))))))
      (pss_one (ps_ret (pe_lst (pa_cons pe_int (pa_cons (pv 1) (pa_cons (pv 2) pa_nil))))))))))), ?_⟩
    refine q_asgL (xs := []) (el_lst ea_nil (by decide)) fun nl H1 n1 e1 h1 => ?_
    refine q_asgL (xs := []) (el_lst ea_nil (by decide)) fun rl H2 n2 e2 h2 => ?_
    have e02 := e1.trans e2
    have nlr : nl ≠ rl := fun e => by rw [← e, h1] at n2; cases n2
    refine q_when (b := decide (z = "")) (et_is (et_test (ev_op (ev_var rfl) ev_c (rv_eq rfl))) (decide_eq_decide.mpr ⟨fun e => V.str.inj e, fun e => congrArg V.str e⟩)) (fun c H3 e3 => ?_) (fun c H3 e3 => ?_)
    · exact s_retL (xs := [.int 0, .ref nl, .ref rl]) (el_lst (ea_cons ev_c (ea_cons (ev_var rfl) (ea_cons (ev_var rfl) ea_nil))) (by show 3 ≤ 100000; omega)) fun t H4 nt e4 ht => none0 (of_decide_eq_true c) H4 t nl rl ((e02.trans e3).trans e4) ht (e4 _ _ (e3 _ _ (e2 _ _ h1))) (e4 _ _ (e3 _ _ h2))
    have nz := of_decide_eq_false c
    have e03 := e02.trans e3
    refine q_asgRaw ⟨_, rfl, rfl, z, "\n", rfl, rfl, by decide, (by rw [sizeLine_eq]; omega), fun lp np => ?_⟩
    dsimp only [gName]
    obtain ⟨R, hR⟩ : ∃ R, Txt.split z "\n" = R := ⟨_, rfl⟩
    have e4 : Ex H3 (upd H3 lp (.lst ((Txt.split z "\n").map V.str))) := Ex.new np
    have hlp : (upd H3 lp (.lst ((Txt.split z "\n").map V.str))) lp = some (.lst ((Txt.split z "\n").map V.str)) := upd_same
    generalize upd H3 lp (.lst ((Txt.split z "\n").map V.str)) = H4 at e4 hlp
    rw [hR] at hlp few txt good bad
    have nl0 : H nl = none := n1
    have rl0 : H rl = none := fresh_back e1 n2
    have j0 : Jst R H nl rl lp [] H4 := ⟨e03.trans e4, e4 _ _ (e3 _ _ (e2 _ _ h1)), e4 _ _ (e3 _ _ h2), (fun x m => nomatch m), hlp, ⟨Nat.zero_le _, (fun i h => absurd h (Nat.not_lt_zero _)), (fun i h => absurd h (Nat.not_lt_zero _))⟩⟩
    have lR : (R.map V.str).length = R.length := List.length_map _
    refine q_forR1 (n := (R.length : Int)) (j := 4) (ea_cons (ev_is (ev_len (ev_var rfl) (sq_of hlp)) (by rw [lR])) ea_nil) (by omega) (fun i σ H' => ∃ (prs : List Rx) (v4 v5 v6 v7 : Option V), σ = [some (V.str z), some (.ref nl), some (.ref rl), some (.ref lp), v4, v5, v6, v7] ∧ prs.length = i ∧ Jst R H nl rl lp prs H')
      (fun H5 e5 => ⟨[], _, _, _, _, rfl, rfl, j0.ex2 e5⟩) ?_ ?_
    · rintro i σ H5 hi ⟨prs, v4, v5, v6, v7, rfl, len, J⟩
      have li : i < R.length := by omega
      have ty := txt _ (List.getElem_mem li)
      obtain ⟨p, mm, q, ep, lp600, tq, pf, pb⟩ := parts_of ty
      have gy : (R.map V.str)[i]? = some (.str R[i]) := by rw [List.getElem?_map, List.getElem?_eq_getElem li]; rfl
      have ly : R[i].length ≤ 260 := ty.1
      refine q_asgRaw ?_
      refine (ev_op (ev_var rfl) (ev_var rfl) (rv_ixL (sq_of J.hl) (atI_nat (j := i) gy))) H5 (Ex.refl H5) _ fun H6 e6 => ⟨rfl, R[i], " ", rfl, rfl, by decide, line_of (by omega), fun t nt => ?_⟩
      dsimp only [gName]
      rw [ep]
      have e7 : Ex H6 (upd H6 t (.tup [.str (SX.S p), .str mm, .str (SX.S q)])) := Ex.new nt
      have ht : (upd H6 t (.tup [.str (SX.S p), .str mm, .str (SX.S q)])) t = some (.tup [.str (SX.S p), .str mm, .str (SX.S q)]) := upd_same
      generalize upd H6 t (.tup [.str (SX.S p), .str mm, .str (SX.S q)]) = H7 at e7 ht
      have J7 := J.ex2 (e6.trans e7)
      have few24 : prs.length ≤ 24 := by
        by_cases h : prs.length ≤ 24
        · exact h
        · have g := J7.rd.good 24 (by rw [List.length_map]; omega)
          exact absurd g.2.2.1 (by omega)
      have lx : (prs.map lnx).length = i := by rw [List.length_map, len]
      have lxR : (prs.map lnx).length < R.length := by omega
      -- a bad line
      have out : ∀ {D : Ends} {v6 v7 : Option V} {H8 : Hp}, Ex H7 H8 → (∀ k D', PairOf R[i] k D' → ¬ KGood (prs.map lnx ++ [((k : Int), D')])) → (∀ t' H9, H t' = none → Ex H H9 → H9 t' = some (.lst [.int ((i : Int) + 1), .ref nl, .ref rl]) → D.rt (.ref t') H9) ∨ (D.rt = fun v H' => Q v H') → tRet (tLst (tCons (tOp (rI0 fun i j => .int (i + j)) (tVar 4) (tC (.int 1))) (tCons (tVar 1) (tCons (tVar 2) tNil)))) D [some (.str z), some (.ref nl), some (.ref rl), some (.ref lp), some (.int (i : Int)), some (.ref t), v6, v7] H8 := fun {D v6 v7 H8} e8 no hD => by
        refine s_retL (xs := [.int ((i : Int) + 1), .ref nl, .ref rl]) (el_lst (ea_cons (ev_op (ev_var rfl) ev_c (fun H1 _ Q q => ⟨_, _, rfl, rfl, q H1 (Ex.refl H1)⟩)) (ea_cons (ev_var rfl) (ea_cons (ev_var rfl) ea_nil))) (by show 3 ≤ 100000; omega)) fun t' H9 nt' e9 ht' => ?_
        rcases hD with hD | hD
        · exact hD t' H9 (fresh_back (J7.ex.trans e8) nt') ((J7.ex.trans e8).trans e9) ht'
        · rw [hD]
          refine bad nz (prs.map lnx) J7.rd lxR (fun y ry => ?_) H9 t' nl rl ((J7.ex.trans e8).trans e9) (by rw [lx]; exact ht')
          obtain ⟨k, ek, po⟩ := ry.each i (by rw [List.length_append, lx]; simp)
          have ey : (prs.map lnx ++ [y])[i]'(by rw [List.length_append, lx]; simp) = y := by
            rw [List.getElem_append_right (by omega)]
            simp only [lx, Nat.sub_self, List.getElem_cons_zero]
          rw [ey] at ek po
          have ez : ((k : Int), y.2) = y := Prod.ext ek.symm rfl
          refine no k y.2 po ?_
          rw [ez]
          exact ry.good
      have nnK := lastK_nn _ _ rfl J7.rd.good
      have sqt := fun {H8 : Hp} (e8 : Ex H7 H8) => st_of (K := K) (e8 _ _ ht)
      refine q_asg (v := .int (numOf p)) (ev_call (ea_cons (ev_op (ev_var rfl) ev_c (rv_ixT (sqt (Ex.refl _)) rfl)) ea_nil) fun H8 e8 Q q E => ⟨p, rfl, by omega, q⟩) fun H8 e8 => ?_
      refine q_asgRaw ?_
      refine (ev_op (ev_var rfl) ev_c (rv_ixT (sqt e8) rfl)) H8 (Ex.refl H8) _ fun H9 e9 => ⟨SX.S q, rfl, tq, fun g rp Ha nrp ea hrp => ?_, fun ng Ha ea => ?_⟩
      rotate_left
      · dsimp only [gName]
        refine q_when (b := true) (et_is (et_or (et_test (ev_op (ev_var rfl) ev_c (rv_eq rfl))) (fun _ => et_test (ev_op (ev_var rfl) ev_c (fun H7 _ Q q => ⟨rfl, q H7 (Ex.refl H7)⟩)))) (by rw [decide_eq_true (rfl : V.non = V.non)]; exact Bool.or_true _)) (fun _ Hb eb => ?_) (fun c => by cases c)
        exact out (((e8.trans e9).trans ea).trans eb) (fun k D' po => absurd (pf k D' po).2.1 ng) (.inr rfl)
      dsimp only [gName]
      have e7a := (e8.trans e9).trans ea
      refine q_when (b := decide (V.int (numOf p) = V.int 0)) (et_is (et_or (et_test (ev_op (ev_var rfl) ev_c (rv_eq rfl))) (fun _ => et_test (ev_op (ev_var rfl) ev_c (fun H7 _ Q q => ⟨rfl, q H7 (Ex.refl H7)⟩)))) (Bool.or_false _)) (fun c Hb eb => ?_) (fun c Hb eb => ?_)
      · have c0 := V.int.inj (of_decide_eq_true c)
        refine out (e7a.trans eb) (fun k D' po kg => ?_) (.inr rfl)
        have hk := (pf k D' po).1
        unfold numOf at c0
        rw [hk] at c0
        have z := (kgood_snoc.mp kg).2.1
        dsimp only at c0 z
        omega
      have c0 := of_decide_eq_false c
      obtain ⟨k, hk⟩ : ∃ k, numLine p = some k := by
        cases h : numLine p with
        | some k => exact ⟨k, rfl⟩
        | none => exact absurd (by unfold numOf; rw [h]) c0
      have nk : numOf p = (k : Int) := by unfold numOf; rw [hk]
      have po := pb k hk g
      have k999 := numLine_le hk
      rw [nk]
      have e7b := e7a.trans eb
      have Jb := J7.ex2 e7b
      have hrpb := eb _ _ hrp
      have row := g.row
      -- the names, the room
      obtain ⟨rs, hrs⟩ : ∃ rs : List (Addr × List Str), prs.map (fun x => (x.2.1, x.2.2)) ++ [(rp, litsOf (SX.S q))] = rs := ⟨_, rfl⟩
      have rsr : rs.map (fun x => V.ref x.1) = prs.map (fun x => V.ref x.2.1) ++ [.ref rp] := by rw [← hrs, List.map_append, List.map_map]; rfl
      have rsn : rowNames rs = (prs.map lnx ++ [((k : Int), litsOf (SX.S q))]).flatMap fun x => x.2.map bare := by
        rw [← hrs]
        unfold rowNames
        rw [List.flatMap_append, List.flatMap_append, List.flatMap_map, List.flatMap_map]
        rfl
      have prow : ∀ x ∈ prs, RowL 6 x.2.2 := fun x m => by
        obtain ⟨j, hj, rfl⟩ := List.mem_iff_getElem.mp m
        obtain ⟨k', _, po'⟩ := Jb.rd.each j (by rw [List.length_map]; exact hj)
        rw [List.getElem_map] at po'
        exact po'.lits
      have rsAt : RowsAt Hb rs := fun x m => by
        rw [← hrs] at m
        rcases List.mem_append.mp m with m | m
        · obtain ⟨y, my, rfl⟩ := List.mem_map.mp m
          exact ⟨(Jb.each y my).1, (prow y my).lit⟩
        · rw [List.mem_singleton.mp m]
          exact ⟨hrpb, row.lit⟩
      have l6 : (rowNames rs).length ≤ 6 * rs.length := by
        unfold rowNames
        refine flat6 _ fun x m => ?_
        rw [List.length_map]
        rw [← hrs] at m
        rcases List.mem_append.mp m with m | m
        · obtain ⟨y, my, rfl⟩ := List.mem_map.mp m
          exact (prow y my).few
        · rw [List.mem_singleton.mp m]
          exact row.few
      have lrs : rs.length = i + 1 := by rw [← hrs, List.length_append, List.length_map, len]; rfl
      obtain ⟨N, od⟩ := ord_any (rowNames rs)
      have lN := ord_len od
      have lni : ((prs.map (·.1)).map V.int).length = i := by rw [List.length_map, List.length_map, len]
      refine q_when (b := decide (i = 24) || decide (12 < N.length)) (et_or (et_test (ev_is (ev_op (ev_len (ev_var rfl) (sq_of Jb.hn)) ev_c (rv_eq rfl)) (congrArg V.bl (decide_eq_decide.mpr ⟨fun h => by have h := V.int.inj h; rw [lni] at h; omega, fun h => by rw [lni, h]; rfl⟩)))) (fun h24 => et_test (ev_is (ev_op (ev_lenN (xs := N.map V.str) (el_namesN (rs := rs) (by rw [rsr]; exact el_cat (els_at (ev_var rfl) Jb.hr) (els_new (el_lst (ea_cons (ev_var rfl) ea_nil) (by show 1 ≤ 100000; omega))) (by rw [List.length_map]; simp only [List.length_cons, List.length_nil]; omega)) rsAt (by have := of_decide_eq_false h24; omega) od)) ev_c (fun H1 _ Q q => ⟨_, 12, rfl, rfl, q H1 (Ex.refl H1)⟩)) (congrArg V.bl (decide_eq_decide.mpr (by rw [List.length_map]; omega)))))) (fun c Hc ec => ?_) (fun c Hc ec => ?_)
      · refine out (e7b.trans ec) (fun k' D' po' kg => ?_) (.inr rfl)
        obtain ⟨rfl, rfl⟩ := po.uniq po'
        obtain ⟨_, _, _, z24, z12⟩ := kgood_snoc.mp kg
        rw [← rsn, ← lN] at z12
        rw [lx] at z24
        rw [Bool.or_eq_true] at c
        rcases c with c | c
        · have := of_decide_eq_true c; omega
        · have := of_decide_eq_true c; omega
      rw [Bool.or_eq_false_iff] at c
      have c24 := of_decide_eq_false c.1
      have c12 := of_decide_eq_false c.2
      have Jc := Jb.ex2 ec
      have hrpc := ec _ _ hrpb
      have e7c := e7b.trans ec
      obtain ⟨LK, hLK⟩ : ∃ LK, lastK (prs.map lnx) = LK := ⟨_, rfl⟩
      rw [hLK] at nnK
      have nnk : (k : Int) ≠ 0 := fun e => c0 (by rw [nk, e])
      refine q_when (b := decide ((0 : Int) < (i : Int)) && decide ((k : Int) ≤ LK)) (et_and (et_test (ev_op (ev_is (ev_len (ev_var rfl) (sq_of Jc.hn)) (by rw [lni])) ev_c (fun H1 _ Q q => ⟨_, _, rfl, rfl, q H1 (Ex.refl H1)⟩))) (fun hpos => et_test (ev_op (ev_var rfl) (ev_op (ev_var rfl) (ev_op (ev_is (ev_len (ev_var rfl) (sq_of Jc.hn)) (by rw [lni])) ev_c (fun H1 _ Q q => ⟨_, _, rfl, rfl, q H1 (Ex.refl H1)⟩)) (rv_ixL (v := .int LK) (sq_of Jc.hn) (by
        have pos := of_decide_eq_true hpos
        have e : (i : Int) - 1 = ((prs.length - 1 : Nat) : Int) := by omega
        rw [e, ← hLK]
        exact atI_nat (last_at (by omega))))) (fun H1 _ Q q => ⟨_, _, rfl, rfl, q H1 (Ex.refl H1)⟩)))) (fun c3 Hd ed => ?_) (fun c3 Hd ed => ?_)
      · refine out (e7c.trans ed) (fun k' D' po' kg => ?_) (.inr rfl)
        obtain ⟨rfl, rfl⟩ := po.uniq po'
        have z := (kgood_snoc.mp kg).2.1
        rw [hLK] at z
        rw [Bool.and_eq_true] at c3
        have := of_decide_eq_true c3.2
        dsimp only at z
        omega
      have up : LK < (k : Int) := by
        by_cases i0 : i = 0
        · have z : prs = [] := List.length_eq_zero_iff.mp (by omega)
          rw [z] at hLK
          have z0 : (0 : Int) = LK := hLK
          omega
        · rw [decide_eq_true (show (0 : Int) < (i : Int) by omega), Bool.true_and] at c3
          have := of_decide_eq_false c3
          omega
      have Jd := Jc.ex2 ed
      have hrpd := ed _ _ hrpc
      have rpo : rp ≠ nl ∧ rp ≠ rl := ⟨(fun e => by rw [e, (J7.ex2 (e8.trans e9)).hn] at nrp; cases nrp), (fun e => by rw [e, (J7.ex2 (e8.trans e9)).hr] at nrp; cases nrp)⟩
      refine q_app (K := K) (v := .int (k : Int)) Jd.hn (ev_var rfl) (ev_var rfl) (by rw [lni]; omega) fun He ee => ?_
      have Je := Jd.ex2 ee
      have hr1 : (upd He nl (.lst ((prs.map (·.1)).map V.int ++ [.int (k : Int)]))) rl = some (.lst (prs.map fun x => V.ref x.2.1)) := by rw [upd_ne (Ne.symm nlr)]; exact Je.hr
      refine s_app (K := K) (v := .ref rp) hr1 (ev_var rfl) (ev_var rfl) (by rw [List.length_map]; omega) fun Hf ef => ?_
      have exE : Ex H (upd He nl (.lst ((prs.map (·.1)).map V.int ++ [.int (k : Int)]))) := Je.ex.mut nl0
      have keep : ∀ {c : Addr} {xs : List V}, c ≠ nl → c ≠ rl → He c = some (.lst xs) → (upd Hf rl (.lst (prs.map (fun x => V.ref x.2.1) ++ [.ref rp]))) c = some (.lst xs) := fun {c xs} a1 a2 h => by
        rw [upd_ne a2]
        exact ef _ _ (by rw [upd_ne a1]; exact h)
      have lpo : lp ≠ nl ∧ lp ≠ rl := ⟨(fun e => by rw [e, e3 _ _ (e2 _ _ h1)] at np; cases np), (fun e => by rw [e, e3 _ _ h2] at np; cases np)⟩
      refine ⟨prs ++ [((k : Int), rp, litsOf (SX.S q))], _, _, _, _, rfl, by rw [List.length_append, len]; rfl, ⟨(exE.trans ef).mut rl0, ?_, ?_, fun x m => ?_, keep lpo.1 lpo.2 Je.hl, ?_⟩⟩
      · rw [upd_ne nlr, List.map_append, List.map_append]
        exact ef _ _ upd_same
      · rw [upd_same, List.map_append]
        rfl
      · rcases List.mem_append.mp m with m | m
        · exact ⟨keep (Je.each x m).2.1 (Je.each x m).2.2 (Je.each x m).1, (Je.each x m).2⟩
        · rw [List.mem_singleton.mp m]
          exact ⟨keep rpo.1 rpo.2 (ee _ _ hrpd), rpo⟩
      · have mp : (prs ++ [((k : Int), rp, litsOf (SX.S q))]).map lnx = prs.map lnx ++ [((k : Int), litsOf (SX.S q))] := by rw [List.map_append]; rfl
        rw [mp]
        refine ⟨by rw [List.length_append, lx]; exact li, fun j hj => ?_, kgood_snoc.mpr ⟨Je.rd.good, by rw [hLK]; exact up, by show (k : Int) ≤ 999; omega, by omega, by rw [← rsn, ← lN]; omega⟩⟩
        by_cases lt : j < (prs.map lnx).length
        · rw [List.getElem_append_left lt]
          exact Je.rd.each j lt
        · have ej : j = i := by
            rw [List.length_append] at hj
            simp only [List.length_cons, List.length_nil] at hj
            omega
          subst ej
          rw [List.getElem_append_right (by omega)]
          simp only [lx, Nat.sub_self, List.getElem_cons_zero]
          exact ⟨k, rfl, po⟩
    · rintro σ H5 ⟨prs, v4, v5, v6, v7, rfl, len, J⟩
      refine s_retL (xs := [.int 0, .ref nl, .ref rl]) (el_lst (ea_cons ev_c (ea_cons (ev_var rfl) (ea_cons (ev_var rfl) ea_nil))) (by show 3 ≤ 100000; omega)) fun t H6 nt e6 ht => good nz prs J.rd (by omega) H6 t nl rl (J.ex.trans e6) ht (e6 _ _ J.hn) (e6 _ _ J.hr) fun x m => e6 _ _ (J.each x m).1
end
open Evl in
theorem okC__law_same (T : Txt P K mg) : L2R.FnC P w K mg base CX0 1 T.f__law_same T.d__law_same ["_law_one", "_law_other"] spSame := by
  refine T.F__law_same.okC sc__law_same (fun vs H Q E h => ?_) (fun cdv A outer s H vs Q E p hr h => ?_)
  · obtain ⟨x, y, rfl, _⟩ := h
    rfl
  · obtain ⟨x, y, rfl, hx, hy, q⟩ := h
    obtain ⟨tx, kx, bx, ix, sx, lx, ux⟩ := kit_flat (K := K) hx
    obtain ⟨ty, ky, by_, iy, sy, ly, uy⟩ := kit_flat (K := K) hy
    have vx : ∀ (σ : L2.St) (H : Hp), σ[0]? = some (some x) → Ev (tVar 0) σ H x := fun σ H e => ev_var e
    have vy : ∀ (σ : L2.St) (H : Hp), σ[1]? = some (some y) → Ev (tVar 1) σ H y := fun σ H e => ev_var e
    refine ⟨_, (pss_cons (ps_if (PW.pt (pw_or (pt_val (pe_callB call_isi (by rfl) T.n_isinstance (by decide +kernel) (pa_cons (pv 0) (pa_cons (pe_bltn (v := .ty "bool") (u := .type "bool") (by rfl) T.n_bool (by decide +kernel) rfl) pa_nil)))) (pw_or1 (pt_val (pe_callB call_isi (by rfl) T.n_isinstance (by decide +kernel) (pa_cons (pv 1) (pa_cons (pe_bltn (v := .ty "bool") (u := .type "bool") (by rfl) T.n_bool (by decide +kernel) rfl) pa_nil))))))) (pss_one (ps_ret (pe_and (pe_callB call_isi (by rfl) T.n_isinstance (by decide +kernel) (pa_cons (pv 0) (pa_cons (pe_bltn (v := .ty "bool") (u := .type "bool") (by rfl) T.n_bool (by decide +kernel) rfl) pa_nil))) (pe_and (pe_callB call_isi (by rfl) T.n_isinstance (by decide +kernel) (pa_cons (pv 1) (pa_cons (pe_bltn (v := .ty "bool") (u := .type "bool") (by rfl) T.n_bool (by decide +kernel) rfl) pa_nil))) (pe_one (pe_cmpR op_eq (pv 0) (pv 1) (nomark _))))))) pss_nil)
      (pss_cons (ps_if (PW.pt (pw_or (pt_val (pe_callB call_isi (by rfl) T.n_isinstance (by decide +kernel) (pa_cons (pv 0) (pa_cons (pe_bltn (v := .ty "int") (u := .type "int") (by rfl) T.n_int (by decide +kernel) rfl) pa_nil)))) (pw_or1 (pt_val (pe_callB call_isi (by rfl) T.n_isinstance (by decide +kernel) (pa_cons (pv 1) (pa_cons (pe_bltn (v := .ty "int") (u := .type "int") (by rfl) T.n_int (by decide +kernel) rfl) pa_nil))))))) (pss_one (ps_ret (pe_and (pe_callB call_isi (by rfl) T.n_isinstance (by decide +kernel) (pa_cons (pv 0) (pa_cons (pe_bltn (v := .ty "int") (u := .type "int") (by rfl) T.n_int (by decide +kernel) rfl) pa_nil))) (pe_and (pe_callB call_isi (by rfl) T.n_isinstance (by decide +kernel) (pa_cons (pv 1) (pa_cons (pe_bltn (v := .ty "int") (u := .type "int") (by rfl) T.n_int (by decide +kernel) rfl) pa_nil))) (pe_one (pe_cmpR op_eq (pv 0) (pv 1) (nomark _))))))) pss_nil)
      (pss_cons (ps_if (PW.pt (pw_or (pt_val (pe_callB call_isi (by rfl) T.n_isinstance (by decide +kernel) (pa_cons (pv 0) (pa_cons (pe_bltn (v := .ty "str") (u := .type "str") (by rfl) T.n_str (by decide +kernel) rfl) pa_nil)))) (pw_or1 (pt_val (pe_callB call_isi (by rfl) T.n_isinstance (by decide +kernel) (pa_cons (pv 1) (pa_cons (pe_bltn (v := .ty "str") (u := .type "str") (by rfl) T.n_str (by decide +kernel) rfl) pa_nil))))))) (pss_one (ps_ret (pe_and (pe_callB call_isi (by rfl) T.n_isinstance (by decide +kernel) (pa_cons (pv 0) (pa_cons (pe_bltn (v := .ty "str") (u := .type "str") (by rfl) T.n_str (by decide +kernel) rfl) pa_nil))) (pe_and (pe_callB call_isi (by rfl) T.n_isinstance (by decide +kernel) (pa_cons (pv 1) (pa_cons (pe_bltn (v := .ty "str") (u := .type "str") (by rfl) T.n_str (by decide +kernel) rfl) pa_nil))) (pe_one (pe_cmpR op_eq (pv 0) (pv 1) (nomark _))))))) pss_nil)
      (pss_cons (ps_set (i := 2) sc__law_same.nd rfl (.inl rfl) (pe_and (pe_callB call_isi (by rfl) T.n_isinstance (by decide +kernel) (pa_cons (pv 0) (pa_cons (pe_bltn (v := .ty "list") (u := .type "list") (by rfl) T.n_list (by decide +kernel) rfl) pa_nil))) (pe_one (pe_callB call_isi (by rfl) T.n_isinstance (by decide +kernel) (pa_cons (pv 1) (pa_cons (pe_bltn (v := .ty "list") (u := .type "list") (by rfl) T.n_list (by decide +kernel) rfl) pa_nil))))))
      (pss_cons (ps_if (PW.pt (pw_and (pt_not (pt_val (pv 2))) (pw_and1 (pt_not (PW.pt (pw_and (pt_val (pe_callB call_isi (by rfl) T.n_isinstance (by decide +kernel) (pa_cons (pv 0) (pa_cons (pe_bltn (v := .ty "tuple") (u := .type "tuple") (by rfl) T.n_tuple (by decide +kernel) rfl) pa_nil)))) (pw_and1 (pt_val (pe_callB call_isi (by rfl) T.n_isinstance (by decide +kernel) (pa_cons (pv 1) (pa_cons (pe_bltn (v := .ty "tuple") (u := .type "tuple") (by rfl) T.n_tuple (by decide +kernel) rfl) pa_nil))))))))))) (pss_one (ps_ret (pe_and (pe_cmpR op_isN (pv 0) pe_non (nomark _)) (pe_one (pe_cmpR op_isN (pv 1) pe_non (nomark _)))))) pss_nil)
      (pss_one ps_never)))))), ?_⟩
    have cmp : ∀ (σ : L2.St) (H1 : Hp), σ[0]? = some (some x) → σ[1]? = some (some y) → scal x y = true → Ev (tOp rEq (tVar 0) (tVar 1)) σ H1 (.bl (decide (x = y))) := fun σ H1 e0 e1 hs => ev_op (ev_var e0) (ev_var e1) (rv_eq hs)
    refine q_when (et_or (et_B (ev_isi (vx _ _ rfl) kx bx)) (fun _ => et_B (ev_isi (vy _ _ rfl) ky by_))) (fun hb H1 e1 => ?_) (fun hb H1 e1 => ?_)
    · refine s_ret (v := .bl (decide (x = y))) (ev_is (ev_andV (ev_isi (vx _ _ rfl) kx bx) (fun h1 => ev_andV (b := decide (x = y)) (ev_isi (vy _ _ rfl) ky by_) (fun h2 => cmp _ _ rfl rfl (scal_flat hx hy (.inl ⟨h1, h2⟩))))) ?_) (fun H2 e2 => q H2 (e1.trans e2))
      cases h1 : isBl x with
      | true =>
        cases h2 : isBl y with
        | true => rfl
        | false => rw [decide_eq_false (ne_bl h1 h2)]; rfl
      | false =>
        rw [h1] at hb
        have h2 : isBl y = true := hb
        rw [decide_eq_false (ne_bl h2 h1).symm]
        rfl
    · have nb : isBl x = false ∧ isBl y = false := by simpa using hb
      rw [nb.1] at ix
      rw [nb.2] at iy
      refine q_when (et_or (et_B (ev_isi (vx _ _ rfl) kx ix)) (fun _ => et_B (ev_isi (vy _ _ rfl) ky iy))) (fun hi H2 e2 => ?_) (fun hi H2 e2 => ?_)
      · refine s_ret (v := .bl (decide (x = y))) (ev_is (ev_andV (ev_isi (vx _ _ rfl) kx ix) (fun h1 => ev_andV (b := decide (x = y)) (ev_isi (vy _ _ rfl) ky iy) (fun h2 => cmp _ _ rfl rfl (scal_flat hx hy (.inr (.inl ⟨h1, h2⟩)))))) ?_) (fun H3 e3 => q H3 ((e1.trans e2).trans e3))
        cases x <;> cases y <;> simp_all [isIn, isBl]
      · have ni : isIn x = false ∧ isIn y = false := by simpa using hi
        refine q_when (et_or (et_B (ev_isi (vx _ _ rfl) kx sx)) (fun _ => et_B (ev_isi (vy _ _ rfl) ky sy))) (fun hs H3 e3 => ?_) (fun hs H3 e3 => ?_)
        · refine s_ret (v := .bl (decide (x = y))) (ev_is (ev_andV (ev_isi (vx _ _ rfl) kx sx) (fun h1 => ev_andV (b := decide (x = y)) (ev_isi (vy _ _ rfl) ky sy) (fun h2 => cmp _ _ rfl rfl (scal_flat hx hy (.inr (.inr ⟨h1, h2⟩)))))) ?_) (fun H4 e4 => q H4 (((e1.trans e2).trans e3).trans e4))
          cases x <;> cases y <;> simp_all [isSt, isBl]
        · have ns : isSt x = false ∧ isSt y = false := by simpa using hs
          have xn : x = .non := non_of hx nb.1 ni.1 ns.1
          have yn : y = .non := non_of hy nb.2 ni.2 ns.2
          refine q_asg (v := .bl false) (ev_is (ev_andV (b := false) (ev_isi (vx _ _ rfl) kx lx) (fun _ => ev_isi (vy _ _ rfl) ky ly)) rfl) (fun H4 e4 => ?_)
          refine q_when (b := true) (et_is (et_and (et_not (et_B (ev_var rfl))) (fun _ => et_not (et_and (b := false) (et_B (ev_isi (vx _ _ rfl) kx ux)) (fun _ => et_B (ev_isi (vy _ _ rfl) ky uy))))) rfl) (fun _ H5 e5 => ?_) (fun hf => by cases hf)
          refine s_ret (v := .bl true) (ev_is (ev_andV (a := true) (b := true) (ev_op (vx _ _ rfl) ev_c (fun H6 _ Q' q' => ⟨rfl, ?_⟩)) (fun _ => ev_op (vy _ _ rfl) ev_c (fun H6 _ Q' q' => ⟨rfl, ?_⟩))) rfl) (fun H6 e6 => ?_)
          · rw [xn]
            exact q' H6 (Ex.refl H6)
          · rw [yn]
            exact q' H6 (Ex.refl H6)
          · have z := q H6 (((((e1.trans e2).trans e3).trans e4).trans e5).trans e6)
            rw [xn, yn] at z
            exact z
section
open Evl
theorem takes0L {X : Cx} : L2.Takes X (fun _ _ _ _ => False) := fun _ _ x => by
  obtain ⟨_, _, _, _, _, _, _, _, _, _, _, _, _, _, _, _, z⟩ := x
  exact z.elim
theorem passL0 {X : Cx} : Passes (L2.CX X.prog X.w) X E0 := fun _ _ _ _ _ _ _ h => by
  obtain ⟨_, _, _, _, _, _, _, _, _, _, _, _, z⟩ := h
  exact z.elim
/-- _law_refused(text, line) -/
def spRefT : Sp := fun vs H Q _ => ∃ (z : Str) (xs : List Ln), vs = [.str z, .int ((xs.length : Int) + 1)] ∧ z ≠ "" ∧ z.length ≤ 3000 ∧ (Txt.split z "\n").length ≤ 200 ∧ (∀ y ∈ Txt.split z "\n", Txt8 260 y) ∧ RdTo (Txt.split z "\n") xs ∧ xs.length < (Txt.split z "\n").length ∧ (∀ y, ¬ RdTo (Txt.split z "\n") (xs ++ [y])) ∧ ∀ H', Ex H H' → Q (.bl true) H'
theorem rd_two {R : List Str} {xs ys : List Ln} (h1 : RdTo R xs) (no : ∀ y, ¬ RdTo R (xs ++ [y])) (h2 : RdTo R ys) : ys.length ≤ xs.length ∧ ys = xs.take ys.length := by
  have le : ys.length ≤ xs.length := by
    by_cases h : ys.length ≤ xs.length
    · exact h
    · have z := rd_uniq h1 h2 (by omega)
      have lt : xs.length < ys.length := by omega
      have y := rd_take h2 (xs.length + 1)
      rw [List.take_succ_eq_append_getElem lt, ← z] at y
      exact absurd y (no _)
  exact ⟨le, rd_uniq h2 h1 le⟩
theorem ok__law_refused (T : Txt P K mg) : FnOk P w K mg base CX0 18 T.f__law_refused T.d__law_refused ["_law_text", "_law_line"] spRefT := by
  refine T.F__law_refused.ok sc__law_refused (fun vs H Q E h => ?_) (fun cdv A outer s H vs Q E hr h => ?_)
  · obtain ⟨z, xs, rfl, _⟩ := h
    rfl
  · obtain ⟨z, xs, rfl, nz, zl, few, txt, rx, lx, no, q⟩ := h
    refine ⟨_, (pss_cons (L2.ps_try_as (i := 2) (tb := fun W => tDrop (tCallS (spReadB T.C_Clause T.C_Book T.C_BadText) (WE W) (tCons (tVar 0) tNil)))
      (ts := fun a cls d => tSeq (tAsg (tAndV (tCB (rIsF K T.C_BadText a cls d) (tCons (tVar 2) (tCons (tC (.ref T.C_HornError)) tNil))) (tCB (rIsF K T.C_BadText a cls d) (tCons (tVar 2) (tCons (tC (.ty "ValueError")) tNil)))) (gName 3)) (tRet (tAndV (tVar 3) (tAndV (tNotV (tCB (rIsFT K T.C_BadText a cls d) (tCons (tVar 2) (tCons (tTup (tCons (tC (.ref T.C_BadLiteral)) (tCons (tC (.ref T.C_BadNumber)) (tCons (tC (.ref T.C_TooMany)) tNil)))) tNil)))) (tCallS spSame (fun _ => E0) (tCons (tByF T.C_BadText a cls d "line" (tVar 2)) (tCons (tVar 1) tNil)))))))
      (Wout := fun _ _ _ _ => False) rfl rfl sc__law_refused.nd rfl rfl ⟨rfl, by decide, Or.inl T.E_BadText.gC⟩ takes0L
      (fun W pn xe tk _ => (pss_one (ps_expr (pe_callS (ok_read_book T) (hr.mono (by decide)) rfl T.g_read_book T.F_read_book.kp T.b_read_book (fun σ => L2.passAt tk σ) (by exact (pa_cons (pv 0) pa_nil))))))
      (fun a oe cls d pn hz hf => (pss_cons (ps_set (i := 3) sc__law_refused.nd rfl (.inl rfl) (pe_and (pe_callB (call_isF T.x_BadText hz hf) (by rfl) T.n_isinstance (by decide +kernel) (pa_cons (pv 2) (pa_cons (pe_glob (v := .ref T.C_HornError) rfl T.g_HornError rfl) pa_nil))) (pe_one (pe_callB (call_isF T.x_BadText hz hf) (by rfl) T.n_isinstance (by decide +kernel) (pa_cons (pv 2) (pa_cons (pe_bltn (v := .ty "ValueError") (u := .type "ValueError") (by rfl) T.n_ValueError (by decide +kernel) rfl) pa_nil))))))
      (pss_one (ps_ret (pe_and (pv 3) (pe_and (pe_not (pe_callB (call_isFT T.x_BadText hz hf) (by rfl) T.n_isinstance (by decide +kernel) (pa_cons (pv 2) (pa_cons (pe_tup (pa_cons (pe_glob (v := .ref T.C_BadLiteral) rfl T.E_BadLiteral.gC rfl) (pa_cons (pe_glob (v := .ref T.C_BadNumber) rfl T.E_BadNumber.gC rfl) (pa_cons (pe_glob (v := .ref T.C_TooMany) rfl T.E_TooMany.gC rfl) pa_nil)))) pa_nil)))) (pe_one (L2R.pe_callC (p := (a, oe)) (okC__law_same T) (L2H.RoomH.mono (room_suite hr) (by decide)) List.mem_cons_self rfl T.g__law_same T.F__law_same.kp T.b__law_same pass0H (pa_cons (pe_byF T.E_BadText T.o_BadText hz hf (pv 2)) (pa_cons (pv 1) pa_nil)))))))))))
      (pss_one (ps_ret pe_bl))), ?_⟩
    obtain ⟨b1, k1, rfl⟩ := T.k_BadText_HornError
    obtain ⟨b2, k2, rfl⟩ := T.k_BadText_ValueError
    obtain ⟨b3, k3, rfl⟩ := T.k_BadText_BadLiteral
    obtain ⟨b4, k4, rfl⟩ := T.k_BadText_BadNumber
    obtain ⟨b5, k5, rfl⟩ := T.k_BadText_TooMany
    have any : PySem.W.kitAny K (.ref T.C_BadText) [.ref T.C_BadLiteral, .ref T.C_BadNumber, .ref T.C_TooMany] = some false := by
      unfold PySem.W.kitAny
      rw [k3]
      dsimp only
      unfold PySem.W.kitAny
      rw [k4]
      dsimp only
      unfold PySem.W.kitAny
      rw [k5]
      rfl
    refine ⟨.str z, rfl, z, rfl, zl, few, txt, fun e => absurd e nz, fun _ ys ry ly => ?_, fun _ ys ry ly ny H1 x e1 hx => ?_⟩
    · have := (rd_two rx no ry).1
      omega
    have el : ys.length = xs.length := Nat.le_antisymm (rd_two rx no ry).1 (rd_two ry ny rx).1
    rw [el] at hx
    refine ⟨true, T.E_BadText.te, fun _ y na => ?_, fun q => Bool.noConfusion q⟩
    have hxx : ∀ {H2 : Hp}, H2 x = some (.xd [("line", .int ((xs.length : Int) + 1))]) → ∀ dx, some x = some dx → ∃ fs, H2 dx = some (.xd fs) := fun h dx e => ⟨_, (Option.some.inj e) ▸ h⟩
    refine ⟨_, rfl, rfl, .ref T.C_HornError, .ref T.C_HornError, _, rfl, fun u e => e, hxx hx, k1, _, rfl, iteT ?_⟩
    refine ⟨_, rfl, rfl, .ty "ValueError", .type "ValueError", _, rfl, fun u e => e, hxx hx, k2, ?_⟩
    refine ⟨_, rfl, _, rfl, iteT ?_⟩
    refine ⟨_, rfl, (by show 3 ≤ sizeLine; decide), fun u nu => ⟨rfl, u, [.ref T.C_BadLiteral, .ref T.C_BadNumber, .ref T.C_TooMany], [.ref T.C_BadLiteral, .ref T.C_BadNumber, .ref T.C_TooMany], _, rfl, Evl.st_of upd_same, fun us ru => ?_, hxx (by rw [upd_ne (ne_of_none hx nu)]; exact hx), any, _, rfl, _, rfl, iteT ?_⟩⟩
    · cases ru with
      | cons a1 r1 => cases r1 with
        | cons a2 r2 => cases r2 with
          | cons a3 r3 => cases r3; cases a1; cases a2; cases a3; rfl
    refine ⟨_, rfl, rfl, rfl, x, _, rfl, (by rw [upd_ne (ne_of_none hx nu)]; exact hx), .int ((xs.length : Int) + 1), rfl, .int ((xs.length : Int) + 1), .int ((xs.length : Int) + 1), rfl, rfl, rfl, fun H2 e2 => ?_⟩
    rw [show decide (V.int ((xs.length : Int) + 1) = V.int ((xs.length : Int) + 1)) = true from decide_eq_true rfl]
    exact q H2 ((e1.trans (Ex.new nu)).trans e2)
end
section
open Evl
theorem ClsAt.at_upd {C : Addr} {H : Hp} {d : Addr} {o u : HO} {cs : List (Addr × List Str)} (h : ClsAt C H cs) (hd : H d = some o) (n1 : ∀ a b c, o ≠ .ins a b c) (n2 : ∀ a, o ≠ .tup a) : ClsAt C (upd H d u) cs := fun c m => by
  obtain ⟨⟨dx, p, h1, h2⟩, ok⟩ := h c m
  refine ⟨⟨dx, p, ?_, ?_⟩, ok⟩
  · rw [upd_ne fun e => ?_]
    · exact h1
    · rw [e, hd] at h1
      exact n1 _ _ _ (Option.some.inj h1)
  · rw [upd_ne fun e => ?_]
    · exact h2
    · rw [e, hd] at h2
      exact n2 _ (Option.some.inj h2)
def spBItn (CB : Addr) (n : Nat) : Sp := fun vs H Q _ => ∃ (b dx d : Addr) (last : Int) (o : Obj) (kvs : List (Key × V)), vs = [.ref b] ∧ H b = some (.ins CB dx [("_placed", .ref d), ("_last", .int last)]) ∧ H d = some (.frz o (.dK kvs)) ∧
  ∀ it es ep, o.data = .dict es ep → H it = none → n ≤ it → Q (.ref it) (upd H it (KItO d it 0 kvs.length ep))
theorem okS_Book_iter (T : Txt P K mg) : FnS P w K mg base CX0 1 T.f_Book_iter T.d_Book_iter ["self"] (spBItn T.C_Book) := by
  refine FnS.of T.F_Book_iter sc_Book_iter (fun n vs H Q E h => ?_) (fun cdv A outer s H vs Q E hr h => ?_)
  · obtain ⟨b, dx, d, last, o, kvs, rfl, _⟩ := h
    rfl
  · obtain ⟨b, dx, d, last, o, kvs, rfl, hb, hd, q⟩ := h
    refine ⟨_, (pss_one (ps_ret (pe_callB call_iterDn (by rfl) T.n_iter (by decide +kernel) (pa_cons (pe_fld (pv 0) rfl) pa_nil)))), ?_⟩
    exact ⟨_, rfl, b, T.C_Book, dx, _, .ref d, rfl, hb, T.cl_Book, T.na_Book__placed, rfl, d, o, kvs, rfl, hd, q⟩
end
section
open Evl
/-- a book while one goes through it -/
structure LkAt (C CB : Addr) (H : Hp) (b dx d : Addr) (es : List Rc) (last : Int) : Prop where
  at_ : H b = some (.ins CB dx (bkF d last))
  fz : ∃ od, H d = some (.frz od (.dK (dkv (es.map Rc.ent))))
  cls : ClsAt C H ((es.map Rc.ent).map (·.2))
theorem LkAt.mono {C CB : Addr} {H H' : Hp} {b dx d : Addr} {es : List Rc} {last : Int} (l : LkAt C CB H b dx d es last) (e : Ex H H') : LkAt C CB H' b dx d es last := ⟨e _ _ l.at_, let ⟨o, h⟩ := l.fz; ⟨o, e _ _ h⟩, l.cls.mono e⟩
theorem ev_getK {C CB CN : Addr} {σ : L2.St} {H : Hp} {ta tb : TE} {b dx d : Addr} {es : List Rc} {last : Int} {e : Rc} (h1 : Ev ta σ H (.ref b)) (h2 : Ev tb σ H (.int e.n)) (l : LkAt C CB H b dx d es last) (o : EsOk es last) (m : e ∈ es) : Ev (tSubO CB (spBGet CB CN) E0 ta tb) σ H (.ref e.a) :=
  ev_subO h1 h2 l.at_ fun H1 e1 Q q E => by
    obtain ⟨od, hd⟩ := (l.mono e1).fz
    have z := valV_at o.keyNd (List.mem_map.mpr ⟨e, m, rfl⟩)
    have z : valV (dkv (es.map Rc.ent)) (.inl e.n) = some (.ref e.a) := z
    refine ⟨b, dx, d, last, e.n, _, rfl, o.txt m, (l.mono e1).at_, .inr ⟨od, hd⟩, fun v hv H2 e2 => ?_, fun no => ?_⟩
    · rw [z] at hv
      cases hv
      exact q H2 e2
    · rw [z] at no; cases no
/-- [f(number) for number in book] -/
theorem el_ownB {C CB : Addr} {σ : L2.St} {H : Hp} {td te : TE} {b dx d : Addr} {es : List Rc} {last : Int} {j : Nat} {vs : List Nat} (f : Rc → V) (h : ∀ H1, H1 b = some (.ins CB dx (bkF d last)) → Ev td σ H1 (.ref b)) (B : BkAt C CB H b dx d (es.map Rc.ent) last) (o : EsOk es last)
    (hw : ∀ x, wipe ((wipe σ vs).set j (some x)) vs = wipe σ vs) (he : ∀ e ∈ es, ∀ H1, (∀ c o, c ≠ d → H c = some o → H1 c = some o) → LkAt C CB H1 b dx d es last → Ev te ((wipe σ vs).set j (some (.int e.n))) H1 (f e)) : EvL (tLockE (tLc (iOwnK CB (spBItn CB) td) (gName j) tYes te vs)) σ H (es.map f) := fun H1 e1 Q q => by
  have B := B.mono e1
  refine ⟨d, _, B.di, True.intro, fun od => ?_⟩
  have bd : b ≠ d := fun e => by
    have h1 := B.at_
    rw [e, B.di] at h1
    cases h1
  have hb2 : (upd H1 d (.frz od (.dK (dkv (es.map Rc.ent))))) b = some (.ins CB dx (bkF d last)) := by rw [upd_ne bd]; exact B.at_
  have cls2 : ClsAt C (upd H1 d (.frz od (.dK (dkv (es.map Rc.ent))))) ((es.map Rc.ent).map (·.2)) := B.cls.at_upd B.di (by simp) (by simp)
  have di := B.di
  have unlock : ∀ {H' : Hp}, Ex (upd H1 d (.frz od (.dK (dkv (es.map Rc.ent))))) H' → Ex H1 (upd H' d (.dK (dkv (es.map Rc.ent)))) := fun {H'} e c o' hc => by
    by_cases c1 : c = d
    · rw [c1, di] at hc
      rw [c1, upd_same]
      exact hc
    · rw [upd_ne c1]
      exact e _ _ (by rw [upd_ne c1]; exact hc)
  have keep : ∀ c o, c ≠ d → H c = some o → (upd H1 d (.frz od (.dK (dkv (es.map Rc.ent))))) c = some o := fun c o n h => by rw [upd_ne n]; exact e1 _ _ h
  refine h _ hb2 _ (Ex.refl _) _ fun Hg eg => ?_
  have nHf : ∀ {D : Addr}, Hg D = none → H1 D = none ∧ D ≠ d := fun {D} n => by
    have n := fresh_back eg n
    have nd : D ≠ d := fun e => by rw [e, upd_same] at n; cases n
    rw [upd_ne nd] at n
    exact ⟨n, nd⟩
  have hdf : Hg d = some (.frz od (.dK (dkv (es.map Rc.ent)))) := eg _ _ upd_same
  have hbf := eg _ _ hb2
  have lk : LkAt C CB Hg b dx d es last := ⟨hbf, ⟨od, hdf⟩, cls2.mono eg⟩
  have keep : ∀ c o, c ≠ d → H c = some o → Hg c = some o := fun c o n h => eg _ _ (keep c o n h)
  have unlock : ∀ {H' : Hp}, Ex Hg H' → Ex H1 (upd H' d (.dK (dkv (es.map Rc.ent)))) := fun {H'} e => unlock (eg.trans e)
  refine ⟨b, dx, _, d, od, _, rfl, hbf, hdf, fun n => ⟨b, dx, d, last, od, _, rfl, hbf, hdf, fun it es_ ep hdat nit low => ⟨it, es_, ep, rfl, hdat, nit, low, upd_same, ?_⟩⟩⟩
  rw [offI_new nit]
  have ldk : (dkv (es.map Rc.ent)).length = es.length := by rw [dkv_len, List.length_map]
  have fw := o.few
  intro L nL
  have nDf := nHf nL
  refine ⟨fun i m H' => m = es.length - i ∧ i ≤ es.length ∧ Ex Hg H' ∧ H' L = some (.lst ((es.take i).map f)), ⟨_, rfl, Nat.zero_le _, Ex.new nL, upd_same⟩, ?_⟩
  rintro i m H2 ⟨rfl, hi, e2, h2⟩
  by_cases lt : i < es.length
  · refine .inr ⟨⟨e2 _ _ hdf, by rw [ldk]; exact lt⟩, fun H' => Ex Hg H' ∧ H' L = some (.lst ((es.take (i + 1)).map f)), fun H' w => ⟨es.length - (i + 1), by omega, rfl, lt, w.1, w.2⟩, fun x H3 w => ?_⟩
    obtain ⟨rfl, kk, vv, hkv, rfl⟩ := w
    have hki : (dkv (es.map Rc.ent))[i]? = some (.inl es[i].n, V.ref es[i].a) := by
      unfold dkv
      rw [List.getElem?_map, List.getElem?_map, List.getElem?_eq_getElem lt]
      rfl
    rw [hki] at hkv
    obtain ⟨rfl, rfl⟩ := Prod.mk.inj (Option.some.inj hkv)
    refine ⟨hw _, ?_⟩
    unfold tYes
    dsimp only
    rw [if_pos rfl]
    refine he _ (List.getElem_mem lt) _ (fun c o n h => e2 _ _ (keep c o n h)) (lk.mono e2) _ (Ex.refl _) _ fun H5 e5 => ⟨_, e5 _ _ h2, ?_, (e2.trans e5).mut nL, ?_⟩
    · rw [List.length_map]
      have := List.length_take_le i es
      exact sz_lt (by omega)
    · rw [upd_same, List.take_add_one, List.getElem?_eq_getElem lt, List.map_append]
      rfl
  · have ei : i = es.length := by omega
    rw [ei, List.take_length] at h2
    have hd2 := e2 _ _ hdf
    exact .inl ⟨⟨hd2, by rw [ldk]; omega⟩, hd2, q L _ nDf.1 (unlock e2) (by rw [upd_ne nDf.2]; exact h2)⟩
end
section
open Evl
theorem emp_app (x : Str) : Str.empty ++ x = x := str_eq (by rw [app_codes]; rfl)
/-- the line of a clause in the text of a book -/
def lineE (e : Rc) : Str := (toString e.n : Str) ++ " " ++ ctext e.D
abbrev TEL (C CB CN : Addr) : TE := fun σ H Q => tJs [tFmt (tVar 1), tC (.str " "), tFmt (tCall (spCStr C) [] E0 (tCons (tSubO CB (spBGet CB CN) E0 (tVar 0) (tVar 1)) tNil))] Str.empty σ H fun out H1 => Q (.str out) H1
theorem row_wt {D : List Str} (few : D.length ≤ 12) (lit : ∀ z ∈ D, z.length ≤ 20) : (ctext D).length ≤ 276 := by
  unfold ctext
  split
  · decide
  · have l := StrLaws.join_length_le " | " D
    have l3 : (" | " : Str).length = 3 := by decide
    have e : Txt.join " | " D = Str.join " | " D := TL.join_eq _ _
    have s := sum_le (L := D) (k := 20) lit
    rw [e]
    rw [l3] at l
    omega
theorem ev_line {C CB CN : Addr} {H : Hp} {b dx d : Addr} {es : List Rc} {last : Int} {e : Rc} (lk : LkAt C CB H b dx d es last) (o : EsOk es last) (m : e ∈ es) : Ev (TEL C CB CN) [some (.ref b), some (.int e.n)] H (.str (lineE e)) := fun H1 e1 Q q => by
  have tx := o.txt m
  have cl := lk.cls (e.a, e.D) (by rw [List.map_map]; exact List.mem_map.mpr ⟨e, m, rfl⟩)
  have ok := cl.2
  have lc : (ctext e.D).length ≤ 276 := row_wt ok.1 fun z hz => (ok.2 z hz).2.1
  have l1 : (toString e.n : Str).length ≤ 1000 := tx.ln
  have a1 : (Str.empty ++ (toString e.n : Str)).length ≤ 0 + 1000 := app_le (Nat.le_refl _) l1
  have a2 : (Str.empty ++ (toString e.n : Str) ++ " ").length ≤ 0 + 1000 + 1 := app_le a1 (by decide)
  have a3 : (Str.empty ++ (toString e.n : Str) ++ " " ++ ctext e.D).length ≤ 0 + 1000 + 1 + 276 := app_le a2 lc
  have b0 : (2000 : Nat) ≤ sizeLine := by rw [sizeLine_eq]; decide
  have call : Ev (tCall (spCStr C) [] E0 (tCons (tSubO CB (spBGet CB CN) E0 (tVar 0) (tVar 1)) tNil)) [some (.ref b), some (.int e.n)] H (.str (ctext e.D)) :=
    ev_call (ea_cons (ev_getK (CN := CN) (ev_var rfl) (ev_var rfl) lk o m) ea_nil) fun H2 e2 Q q E => ⟨e.a, e.D, rfl, cl.1.mono e2, ok, q⟩
  refine ⟨_, rfl, .inr ⟨e.n, rfl, tx.lg, _, rfl, Nat.le_trans a1 (Nat.le_trans (by decide) b0), " ", rfl, Nat.le_trans a2 (Nat.le_trans (by decide) b0), call H1 e1 _ fun H2 e2 => .inl ⟨ctext e.D, rfl, line_of (by omega), _, rfl, Nat.le_trans a3 (Nat.le_trans (by decide) b0), ?_⟩⟩⟩
  rw [emp_app]
  exact q H2 e2
/-- book_lines(book) -/
def spLines (C CB : Addr) : Sp := fun vs H Q _ => ∃ (b dx d : Addr) (es : List Rc) (last : Int), vs = [.ref b] ∧ BkAt C CB H b dx d (es.map Rc.ent) last ∧ EsOk es last ∧ RetL ((es.map lineE).map V.str) H Q
theorem ok_book_lines (T : Txt P K mg) : FnOk P w K mg base CX0 5 T.f_book_lines T.d_book_lines ["book"] (spLines T.C_Clause T.C_Book) := by
  refine T.F_book_lines.ok sc_book_lines (fun vs H Q E h => ?_) (fun cdv A outer s H vs Q E hr h => ?_)
  · obtain ⟨b, dx, d, es, last, rfl, _⟩ := h
    rfl
  · obtain ⟨b, dx, d, es, last, rfl, B, o, q⟩ := h
    refine ⟨_, (pss_one (ps_ret (pe_lock (pe_lc (own := [("number", 1)]) (g := gName 1) (te := TEL T.C_Clause T.C_Book T.C_NoClause) (by rfl) sc_book_lines.nd (pi_ownK (by exact (pv 0)) T.m_Book_iter T.i_Book_iter (okS_Book_iter T) T.b_Book_iter (hr.mono (by decide))) (blkOk_by (own := [("number", 1)]) (N := N_book_lines) (sc := defScope s_book_lines) (by decide +kernel)) (fun _ _ _ _ _ => pg_name (i := 1) sc_book_lines.nd rfl (Or.inl rfl)) (fun _ _ _ _ _ => pts_nil) (fun _ _ _ _ _ => (pe_joined (.cons (pe_fmt (pv 1)) (.cons pe_str (.cons (pe_fmt (pe_call (ok_clause_text T) (hr.mono (by decide)) rfl T.g_clause_text T.F_clause_text.kp T.b_clause_text .nil pass0 (pa_cons (pe_subO (getB T) (ok_Book_getitem T) (hr.mono (by decide)) T.b_Book_getitem passN0 (pv 0) (pv 1)) pa_nil))) .nil))))))))), ?_⟩
    have z := el_ownB (td := tVar 0) (te := TEL T.C_Clause T.C_Book T.C_NoClause) (σ := [some (.ref b), none]) (j := 1) (vs := [1]) (fun e => V.str (lineE e)) (fun H1 _ => ev_var rfl) B o (fun _ => rfl) (fun e m H1 _ lk => ev_line lk o m)
    have zz : (es.map fun e => V.str (lineE e)) = (es.map lineE).map V.str := by rw [List.map_map]; rfl
    exact s_retL (zz ▸ z) q
theorem ev_joinN {σ : L2.St} {H : Hp} {te : TE} {sep : Str} {L : List Str} (h : EvL te σ H (L.map V.str)) (few : L.length ≤ 100) (short : ∀ z ∈ L, z.length ≤ 1500) (s5 : sep.length ≤ 5) :
    Ev (tBM K "str" (fun x xs H Q => ∃ a p, ∃ ys : List Str, x = .str a ∧ xs = [.ref p] ∧ (SqL K H p (ys.map V.str) ∨ SqT K H p (ys.map V.str)) ∧ (ys.map (·.length)).sum + ys.length * a.length ≤ 16777216 ∧ Q (.str (Txt.join a ys)) H) (tC (.str sep)) (tCons te tNil)) σ H (.str (Txt.join sep L)) := fun H1 e1 Q q =>
  ⟨rfl, h H1 e1 _ fun p H2 np e2 hp => ⟨sep, p, L, rfl, rfl, .inl (SqL.of hp), by
    have a := sum_le (L := L) (k := 1500) short
    have b : L.length * sep.length ≤ 100 * 5 := Nat.mul_le_mul few s5
    omega, q H2 e2⟩⟩
theorem lineE_len {C CB : Addr} {H : Hp} {b dx d : Addr} {es : List Rc} {last : Int} (B : BkAt C CB H b dx d (es.map Rc.ent) last) (o : EsOk es last) : ∀ z ∈ es.map lineE, z.length ≤ 1500 := fun z mz => by
  obtain ⟨e, m, rfl⟩ := List.mem_map.mp mz
  have cl := B.cls (e.a, e.D) (by rw [List.map_map]; exact List.mem_map.mpr ⟨e, m, rfl⟩)
  have lc : (ctext e.D).length ≤ 276 := row_wt cl.2.1 fun z hz => (cl.2.2 z hz).2.1
  have a2 : ((toString e.n : Str) ++ " ").length ≤ 1000 + 1 := app_le (o.txt m).ln (by decide)
  exact Nat.le_trans (app_le a2 lc) (by decide)
/-- book_text(book) -/
def textB (es : List Rc) : Str := Txt.join "\n" (es.map lineE)
def spTextB (C CB : Addr) : Sp := fun vs H Q _ => ∃ (b dx d : Addr) (es : List Rc) (last : Int), vs = [.ref b] ∧ BkAt C CB H b dx d (es.map Rc.ent) last ∧ EsOk es last ∧ ∀ H', Ex H H' → Q (.str (textB es)) H'
theorem ok_book_text (T : Txt P K mg) : FnOk P w K mg base CX0 6 T.f_book_text T.d_book_text ["book"] (spTextB T.C_Clause T.C_Book) := by
  refine T.F_book_text.ok sc_book_text (fun vs H Q E h => ?_) (fun cdv A outer s H vs Q E hr h => ?_)
  · obtain ⟨b, dx, d, es, last, rfl, _⟩ := h
    rfl
  · obtain ⟨b, dx, d, es, last, rfl, B, o, q⟩ := h
    refine ⟨_, (pss_one (ps_ret (pe_bm PySem.F.plainAttrs_str PySem.F.slot_str_join PySem.F.type_str_join mt_join pe_str (pa_cons (pe_call (ok_book_lines T) (hr.mono (by decide)) rfl T.g_book_lines T.F_book_lines.kp T.b_book_lines .nil pass0 (pa_cons (pv 0) pa_nil)) pa_nil)))), ?_⟩
    refine s_ret (ev_joinN (L := es.map lineE) (el_call (ea_cons (ev_var rfl) ea_nil) fun H1 e1 Q q E => ⟨b, dx, d, es, last, rfl, B.mono e1, o, q⟩) (by rw [List.length_map]; have := o.few; omega) (lineE_len B o) (by decide)) fun H1 e1 => q H1 e1
/-- _law_lines(numbers, rows) -/
def spLawLines : Sp := fun vs H Q _ => ∃ (ln lr : Addr) (es : List Rc) (last : Int), vs = [.ref ln, .ref lr] ∧ TabAt H ln lr es ∧ EsOk es last ∧ RetL ((es.map lineE).map V.str) H Q
end
/-! ### the lines of a book, read -/
section
open Evl
/-- how much room the texts of a list take when they are joined -/
def wt (L : List Str) : Nat := (L.map fun z => z.length + 3).sum
theorem wt_le {k : Nat} : ∀ {L : List Str}, (∀ z ∈ L, z.length ≤ k) → wt L ≤ L.length * (k + 3)
  | [], _ => by simp [wt]
  | z :: r, h => by
    have ih := wt_le (L := r) fun y hy => h y (List.mem_cons_of_mem _ hy)
    have hz := h z List.mem_cons_self
    have e : wt (z :: r) = (z.length + 3) + wt r := by simp [wt]
    have e2 : (r.length + 1) * (k + 3) = r.length * (k + 3) + (k + 3) := Nat.succ_mul _ _
    show wt (z :: r) ≤ (r.length + 1) * (k + 3)
    omega
theorem lit_txt9 {z : Str} (h : isLit z = true) : Txt8 9 z := by
  have n : isName (bare z) = true := h
  rcases lit_form (z := z) with e | e
  · rw [e]; exact (name_txt n).mono (by decide)
  · rw [e]; exact ((show Txt8 1 "-" from ⟨by decide, by decide⟩).app (name_txt n)).mono (by decide)
theorem mem_joinL {S : List Nat} {c : Nat} : ∀ {ps : List (List Nat)}, c ∈ TL.joinL S ps → c ∈ S ∨ ∃ p ∈ ps, c ∈ p
  | [p], h => .inr ⟨p, List.mem_cons_self, h⟩
  | p :: q :: r, h => by
    have h2 : c ∈ p ++ (S ++ TL.joinL S (q :: r)) := h
    rcases List.mem_append.mp h2 with h | h
    · exact .inr ⟨p, List.mem_cons_self, h⟩
    · rcases List.mem_append.mp h with h | h
      · exact .inl h
      · rcases mem_joinL h with h | ⟨p2, m, hc⟩
        · exact .inl h
        · exact .inr ⟨p2, List.mem_cons_of_mem _ m, hc⟩
theorem join_txt {L : List Str} {n : Nat} (hw : wt L ≤ n) (asc : ∀ z ∈ L, ∀ c ∈ z.cps.toList, c < 128) : Txt8 n (Txt.join " | " L) := by
  have e : Txt.join " | " L = Str.join " | " L := TL.join_eq _ _
  refine ⟨?_, fun c hc => ?_⟩
  · have l := StrLaws.join_length_le " | " L
    have l3 : (" | " : Str).length = 3 := by decide
    have w : wt L = (L.map (·.length)).sum + L.length * 3 := by
      clear hw asc e l
      induction L with
      | nil => rfl
      | cons z r ih =>
        have e : wt (z :: r) = (z.length + 3) + wt r := by simp [wt]
        rw [e, ih]
        simp only [List.map_cons, List.sum_cons, List.length_cons]
        omega
    have w2 : (Str.join " | " L).length = (Str.join " | " L).cps.size := rfl
    rw [e]
    rw [l3] at l
    omega
  · rw [e] at hc
    have hc2 : c ∈ TL.joinL (TL.tl " | ") (L.map TL.tl) := by rw [← TL.tl_join]; exact hc
    rcases mem_joinL hc2 with h | ⟨p, m, h⟩
    · have q : ∀ c ∈ TL.tl " | ", c < 128 := by decide
      exact q c h
    · obtain ⟨z, hz, rfl⟩ := List.mem_map.mp m
      exact asc z hz c h
/-- the names of the literals in order are the names in order -/
theorem RowL.due_names {k : Nat} {L N : List Str} (r : RowL k L) (od : Ord (L.map bare) N) : (due L N).map bare = N := by
  have one : ∀ n ∈ N, (pick L n).map bare = [n] := fun n hn => by
    have nd := r.ndash od n hn
    obtain ⟨z, hz, e⟩ := List.mem_map.mp ((od.mem n).mp hn)
    have b := r.one n
    unfold bothIn at b
    unfold pick
    by_cases c1 : n ∈ L
    · have c2 : ("-" ++ n) ∉ L := by
        intro h
        rw [decide_eq_true c1, decide_eq_true h] at b
        cases b
      rw [List.filter_cons, if_pos (decide_eq_true c1), List.filter_cons, if_neg (by simp [c2])]
      show [bare n] = [n]
      rw [bare_no nd]
    · have c2 : ("-" ++ n) ∈ L := by
        rcases lit_form (z := z) with q | q
        · rw [e] at q; rw [q] at hz; exact absurd hz c1
        · rw [e] at q; rw [q] at hz; exact hz
      rw [List.filter_cons, if_neg (by simp [c1]), List.filter_cons, if_pos (decide_eq_true c2)]
      show [bare ("-" ++ n)] = [n]
      rw [bare_minus]
  have all : ∀ M : List Str, (∀ n ∈ M, n ∈ N) → (M.flatMap (pick L)).map bare = M := by
    intro M
    induction M with
    | nil => intro _; rfl
    | cons n r ih =>
      intro h
      rw [List.flatMap_cons, List.map_append, one n (h n List.mem_cons_self), ih fun m hm => h m (List.mem_cons_of_mem _ hm)]
      rfl
  exact all N fun _ h => h
theorem RowD.six {R D : List Str} (h : RowD R D) : RowL 6 D := by
  have mm := rowD h
  have ll := rowLen h
  obtain ⟨row, N, od, rfl⟩ := h
  exact ⟨by rw [ll]; exact row.few, fun z hz => row.lit z ((mm z).mp hz), by rw [row.due_names od]; exact od.nd⟩
theorem RowD.again {R D N : List Str} (h : RowD R D) (od : Ord (D.map bare) N) : due D N = D := by
  have mm := rowD h
  obtain ⟨row, N0, od0, e⟩ := h
  have z : N = N0 := od.uniq od0 fun x => (mem_bare mm x)
  rw [z, due_cong (A := D) (B := R) (N := N0) mm, ← e]
theorem join_not0 {D : List Str} (ne : D ≠ []) (lit : ∀ y ∈ D, isLit y = true) : Txt.join sepC D ≠ "0" := fun e => by
  cases D with
  | nil => exact ne rfl
  | cons y r =>
    have h : TL.tl (Txt.join sepC (y :: r)) = TL.joinL (TL.tl sepC) ((y :: r).map TL.tl) := by rw [TL.join_eq, TL.tl_join]
    have s : (TL.tl y).Sublist (TL.tl (Txt.join sepC (y :: r))) := by rw [h]; exact sub_joinL (List.mem_map_of_mem List.mem_cons_self)
    rw [e] at s
    have t0 : TL.tl "0" = [48] := by decide
    rw [t0] at s
    have ly := lit y List.mem_cons_self
    have yy : y = "" ∨ y = "0" := by
      cases hy : TL.tl y with
      | nil => exact .inl (TL.ext_tl (by rw [hy]; rfl))
      | cons c q =>
        rw [hy] at s
        have l := s.length_le
        cases q with
        | cons => simp at l
        | nil =>
          have m := s.subset List.mem_cons_self
          rw [List.mem_singleton.mp m] at hy
          exact .inr (TL.ext_tl (by rw [hy, t0]))
    rcases yy with rfl | rfl
    · exact absurd ly (by decide)
    · exact absurd ly (by decide)
theorem litsOf_text {D : List Str} (lit : ∀ y ∈ D, isLit y = true) : litsOf (ctext D) = D := by
  by_cases ne : D = []
  · subst ne
    exact if_pos rfl
  · have e : ctext D = Txt.join sepC D := by
      unfold ctext
      rw [if_neg ne]
      rfl
    rw [e]
    unfold litsOf
    rw [if_neg (join_not0 ne lit), split_back ne lit]
theorem RowD.good {R D : List Str} (h : RowD R D) : Good (ctext D) := by
  have l := litsOf_text h.six.lit
  refine ⟨by rw [l]; exact h.six, fun N od => ?_⟩
  rw [l] at od ⊢
  exact h.again od
theorem line_tl {e : Rc} {k : Nat} (h : e.n = k) : (lineE e).cps.toList = TL.numL k ++ 32 :: (ctext e.D).cps.toList := by
  unfold lineE
  rw [app_codes, app_codes, h]
  have z : (toString (k : Int) : Str).cps.toList = TL.numL k := TL.tl_num k
  have z2 : (" " : Str).cps.toList = [32] := by decide
  rw [z, z2, List.append_assoc]
  rfl
theorem ctext_txt {D : List Str} (r : RowL 6 D) : Txt8 72 (ctext D) := by
  unfold ctext
  split
  · exact ⟨by decide, by decide⟩
  · have w : wt D ≤ 6 * (9 + 3) := Nat.le_trans (wt_le (k := 9) fun z m => (lit_txt9 (r.lit z m)).1) (Nat.mul_le_mul_right _ r.few)
    exact join_txt (by omega) fun z m => (lit_txt9 (r.lit z m)).2
theorem line_txt {e : Rc} {k : Nat} (h : e.n = k) (hk : k ≤ 999) (rd : RowD e.R e.D) : Txt8 99 (lineE e) := by
  have c := ctext_txt rd.six
  have l3 : (TL.numL k).length ≤ 3 := TL.numL_len (by decide) (by omega)
  have t := line_tl h
  refine ⟨?_, fun x hx => ?_⟩
  · have e1 : (lineE e).cps.size = (lineE e).cps.toList.length := by simp
    have e2 : (ctext e.D).cps.toList.length = (ctext e.D).cps.size := by simp
    rw [e1, t, List.length_append, List.length_cons, e2]
    have := c.1
    omega
  · rw [t] at hx
    rcases List.mem_append.mp hx with m | m
    · have := TL.numL_digits k x m
      omega
    · rcases List.mem_cons.mp m with m | m
      · omega
      · exact c.2 x m
theorem Rc.nat {es : List Rc} {last : Int} (o : EsOk es last) {e : Rc} (m : e ∈ es) : ∃ k : Nat, e.n = k ∧ k ≤ 999 := by
  have r := o.rng e m
  have := o.l9
  exact ⟨e.n.toNat, by omega, by omega⟩
theorem line_no10 {e : Rc} {k : Nat} (h : e.n = k) (hk : k ≤ 999) (rd : RowD e.R e.D) : 10 ∉ TL.tl (lineE e) := fun m => by
  have m : (10 : Nat) ∈ (lineE e).cps.toList := m
  rw [line_tl h] at m
  rcases List.mem_append.mp m with m | m
  · exact TL.numL_free (.inl (by decide)) m
  · rcases List.mem_cons.mp m with m | m
    · omega
    · unfold ctext at m
      split at m
      · exact absurd m (by decide)
      · rename_i ne
        have m2 : (10 : Nat) ∈ TL.tl (Txt.join " | " e.D) := m
        rw [TL.join_eq, TL.tl_join] at m2
        rcases mem_joinL m2 with h | ⟨p, hp, h⟩
        · exact absurd h (by decide)
        · obtain ⟨z, hz, rfl⟩ := List.mem_map.mp hp
          have lz := rd.six.lit z hz
          have nb : isName (bare z) = true := lz
          obtain ⟨_, _, _, al⟩ := name_len nb
          have no : 10 ∉ (bare z).cps.toList := fun m2 => absurd (List.all_eq_true.mp al 10 m2) (by decide)
          rcases lit_form (z := z) with e | e
          · rw [e] at h; exact no h
          · rw [e] at h
            have m2 : (10 : Nat) ∈ ("-" ++ bare z).cps.toList := h
            rw [minus_codes] at m2
            rcases List.mem_cons.mp m2 with e2 | m3
            · cases e2
            · exact no m3
def lns (es : List Rc) : List Ln := es.map fun e => (e.n, e.D)
end
section
open Evl
theorem flatMap_cg {α β : Type} {l : List α} {f g : α → List β} (h : ∀ a ∈ l, f a = g a) : l.flatMap f = l.flatMap g := by
  induction l with
  | nil => rfl
  | cons a r ih => rw [List.flatMap_cons, List.flatMap_cons, h a List.mem_cons_self, ih fun b m => h b (List.mem_cons_of_mem _ m)]
theorem numLine_inv {l : List Nat} {k : Nat} (h : numLine l = some k) : TL.numL k = l := by
  unfold numLine at h
  split at h
  · split at h
    · split at h
      · rename_i c
        rw [← Option.some.inj h]
        exact c
      · cases h
    · cases h
  · cases h
theorem pair_inv {z : Str} {k : Nat} {D : List Str} (h : PairOf z k D) : z.cps.toList = TL.numL k ++ 32 :: (ctext D).cps.toList := by
  obtain ⟨p, q, e1, e2, g, rfl⟩ := h
  have ct := good_text g
  have ep := numLine_inv e2
  rcases cutB z.cps.toList with n | ⟨p', q', el, hp⟩
  · rw [TL.par_none1 n] at e1
    cases e1
  · have hp2 : TL.par [32] [] z.cps.toList = some (p', q') := by rw [el]; exact TL.par_part1 (S := []) (acc := []) hp
    rw [hp2] at e1
    cases e1
    rw [ct, el, ep]
theorem line_is {y : Str} {e : Rc} {k : Nat} (po : PairOf y k e.D) (hn : e.n = k) : lineE e = y := str_eq (by rw [line_tl hn, pair_inv po])
theorem pair_rowD {z : Str} {k : Nat} {D : List Str} (h : PairOf z k D) : RowD D D := by
  obtain ⟨p, q, e1, e2, g, rfl⟩ := h
  obtain ⟨N, od⟩ := ord_any ((litsOf (SX.S q)).map bare)
  exact ⟨g.row, N, od, (g.ord N od).symm⟩
theorem kgood_asc : ∀ (n : Nat) (xs : List Ln), xs.length = n → KGood xs → (xs.map (·.1)).Pairwise (· < ·) ∧ ∀ x ∈ xs, 1 ≤ x.1 ∧ x.1 ≤ lastK xs
  | 0, xs, h, _ => by
    have z := List.length_eq_zero_iff.mp h
    subst z
    exact ⟨.nil, fun x m => nomatch m⟩
  | n + 1, xs, h, g => by
    obtain ⟨ys, y, rfl⟩ : ∃ ys y, xs = ys ++ [y] := by
      rcases List.eq_nil_or_concat xs with e | ⟨ys, y, e⟩
      · rw [e] at h; cases h
      · exact ⟨ys, y, by rw [e, List.concat_eq_append]⟩
    have z := kgood_snoc.mp g
    have nn := lastK_nn _ _ rfl z.1
    obtain ⟨i1, i2⟩ := kgood_asc n ys (by rw [List.length_append] at h; simpa using h) z.1
    rw [lastK_snoc, List.map_append, List.pairwise_append]
    refine ⟨⟨i1, by simp, fun a ha b hb => ?_⟩, fun x m => ?_⟩
    · obtain ⟨x, mx, rfl⟩ := List.mem_map.mp ha
      obtain ⟨w, mw, rfl⟩ := List.mem_map.mp hb
      rw [List.mem_singleton.mp mw]
      have := (i2 x mx).2
      omega
    · rcases List.mem_append.mp m with m | m
      · have := i2 x m
        omega
      · rw [List.mem_singleton.mp m]
        omega
theorem kgood_top {xs : List Ln} (g : KGood xs) : xs.length ≤ 24 ∧ lastK xs ≤ 999 ∧ (putL (xs.flatMap fun x => x.2.map bare)).length ≤ 12 := by
  rcases List.eq_nil_or_concat xs with e | ⟨ys, y, e⟩
  · subst e
    exact ⟨Nat.zero_le _, by decide, Nat.zero_le _⟩
  · rw [List.concat_eq_append] at e
    subst e
    have z := kgood_snoc.mp g
    rw [lastK_snoc, List.length_append]
    exact ⟨by simp only [List.length_cons, List.length_nil]; omega, z.2.2.1, z.2.2.2.2⟩
theorem es_ex : ∀ {prs : List Rx} {ps : List Ent}, ps.map (fun e => (e.1, e.2.2)) = (prs.map lnx).map (fun x => ((.inl x.1 : Key), x.2)) → ∃ es : List Rc, es.map Rc.ent = ps ∧ es.map (fun e => ((e.n, e.ra, e.R) : Rx)) = prs ∧ ∀ e ∈ es, e.R = e.D
  | [], [], _ => ⟨[], rfl, rfl, fun e m => nomatch m⟩
  | [], p :: r, h => by simp at h
  | x :: xs, [], h => by simp at h
  | x :: xs, p :: ps, h => by
    have h2 : (p.1, p.2.2) :: ps.map (fun e => (e.1, e.2.2)) = ((.inl x.1 : Key), x.2.2) :: (xs.map lnx).map (fun x => ((.inl x.1 : Key), x.2)) := h
    injection h2 with h3 h4
    obtain ⟨es, f1, f2, f3⟩ := es_ex h4
    have k1 : p.1 = .inl x.1 := (Prod.mk.inj h3).1
    have k2 : p.2.2 = x.2.2 := (Prod.mk.inj h3).2
    refine ⟨⟨x.1, p.2.1, x.2.1, x.2.2, x.2.2⟩ :: es, ?_, ?_, fun e m => ?_⟩
    · rw [List.map_cons, f1]
      have z : Rc.ent ⟨x.1, p.2.1, x.2.1, x.2.2, x.2.2⟩ = p := by
        obtain ⟨p1, p2, p3⟩ := p
        dsimp only at k1 k2
        rw [k1, k2]
        rfl
      rw [z]
    · rw [List.map_cons, f2]
    · rcases List.mem_cons.mp m with rfl | m
      · rfl
      · exact f3 e m
/-- the whole text was judged well -/
def Rd (z : Str) (prs : List Rx) : Prop := (z = "" ∧ prs = []) ∨ (z ≠ "" ∧ RdTo (Txt.split z "\n") (prs.map lnx) ∧ prs.length = (Txt.split z "\n").length)
theorem Rd.good {z : Str} {prs : List Rx} (r : Rd z prs) : KGood (prs.map lnx) := by
  rcases r with ⟨_, rfl⟩ | ⟨_, r, _⟩
  · exact fun j h => absurd h (Nat.not_lt_zero _)
  · exact r.good
theorem Rd.each {z : Str} {prs : List Rx} (r : Rd z prs) {x : Rx} (m : x ∈ prs) : ∃ (y : Str) (k : Nat), x.1 = k ∧ PairOf y k x.2.2 := by
  rcases r with ⟨_, rfl⟩ | ⟨_, r, _⟩
  · cases m
  · obtain ⟨i, hi, rfl⟩ := List.mem_iff_getElem.mp m
    obtain ⟨k, e, po⟩ := r.each i (by rw [List.length_map]; exact hi)
    rw [List.getElem_map] at e po
    exact ⟨_, k, e, po⟩
theorem rx_mem {es : List Rc} {prs : List Rx} (h : es.map (fun e => ((e.n, e.ra, e.R) : Rx)) = prs) {e : Rc} (m : e ∈ es) : (e.n, e.ra, e.R) ∈ prs := by
  rw [← h]
  exact List.mem_map.mpr ⟨e, m, rfl⟩
theorem Rd.esok {z : Str} {prs : List Rx} (r : Rd z prs) {es : List Rc} (h : es.map (fun e => ((e.n, e.ra, e.R) : Rx)) = prs) (hR : ∀ e ∈ es, e.R = e.D) : EsOk es (lastK (prs.map lnx)) := by
  have g := r.good
  have t := kgood_top g
  have a := kgood_asc _ _ rfl g
  have nn := lastK_nn _ _ rfl g
  have le : es.length = prs.length := by rw [← h, List.length_map]
  have hn : es.map Rc.n = (prs.map lnx).map (·.1) := by
    rw [← h, List.map_map, List.map_map]
    rfl
  have row : ∀ e ∈ es, RowD e.R e.D := fun e m => by
    obtain ⟨y, k, _, po⟩ := r.each (rx_mem h m)
    rw [← hR e m]
    exact pair_rowD po
  refine ⟨by rw [hn]; exact a.1, fun e m => a.2 (e.n, e.R) (List.mem_map.mpr ⟨_, rx_mem h m, rfl⟩), row, by rw [List.length_map] at t; omega, ?_, nn, t.2.1⟩
  have l6 : (rowNames (es.map Rc.row)).length ≤ 6 * es.length := by
    rw [rowNames_row]
    exact flat6 _ fun e m => by rw [List.length_map]; exact (row e m).1.few
  rw [List.length_map] at t
  omega
theorem Rd.text {z : Str} {prs : List Rx} (r : Rd z prs) {es : List Rc} (h : es.map (fun e => ((e.n, e.ra, e.R) : Rx)) = prs) (hR : ∀ e ∈ es, e.R = e.D) : textB es = z := by
  have le : es.length = prs.length := by rw [← h, List.length_map]
  rcases r with ⟨rfl, rfl⟩ | ⟨_, r, l⟩
  · have z := List.length_eq_zero_iff.mp le
    subst z
    exact str_eq rfl
  · have e : es.map lineE = Txt.split z "\n" := by
      refine List.ext_getElem (by rw [List.length_map]; omega) fun i h1 h2 => ?_
      rw [List.length_map] at h1
      rw [List.getElem_map]
      obtain ⟨k, e, po⟩ := r.each i (by rw [List.length_map]; omega)
      have z1 : prs[i]'(by omega) = (es[i].n, es[i].ra, es[i].R) := by
        subst h
        rw [List.getElem_map]
      rw [List.getElem_map, z1] at e po
      have po2 : PairOf ((Txt.split z "\n")[i]) k es[i].D := by rw [← hR _ (List.getElem_mem h1)]; exact po
      exact line_is po2 e
    unfold textB
    rw [e, TL.join_eq]
    exact StrLaws.join_split z "\n"
theorem Rd.nm {z : Str} {prs : List Rx} (r : Rd z prs) {es : List Rc} (h : es.map (fun e => ((e.n, e.ra, e.R) : Rx)) = prs) (hR : ∀ e ∈ es, e.R = e.D) : (putL (allNames ((es.map Rc.ent).map (·.2)))).length ≤ 12 := by
  have t := (kgood_top r.good).2.2
  have e : allNames ((es.map Rc.ent).map (·.2)) = (prs.map lnx).flatMap fun x => x.2.map bare := by
    rw [allNames_ent, ← h, List.map_map, List.flatMap_map]
    refine flatMap_cg fun e m => ?_
    show e.D.map bare = e.R.map bare
    rw [hR e m]
  rw [e]
  exact t
theorem ev_stateN {C CB : Addr} {σ : L2.St} {H : Hp} {tb tn tr tc : TE} {b dx d ln lr : Addr} {es : List Rc} {last : Int} {E : XK} (h1 : Ev tb σ H (.ref b)) (h2 : Ev tn σ H (.ref ln)) (h3 : Ev tr σ H (.ref lr)) (h4 : Ev tc σ H (.int (last + 1)))
    (B : BkAt C CB H b dx d (es.map Rc.ent) last) (t : TabAt H ln lr es) (o : EsOk es last) (n12 : (putL (allNames ((es.map Rc.ent).map (·.2)))).length ≤ 12) : Ev (tCall (spState C CB) [] E (tCons tb (tCons tn (tCons tr (tCons tc tNil))))) σ H (.bl true) :=
  ev_call (ea_cons h1 (ea_cons h2 (ea_cons h3 (ea_cons h4 ea_nil)))) fun H1 e1 Q q E => ⟨b, dx, d, ln, lr, es, last, rfl, B.mono e1, t.mono e1, o, n12, q⟩
theorem q_readR {C CB CT : Addr} {te : TE} {i : Nat} {tz : TS} {En : Ends} {σ : L2.St} {H : Hp} {z : Str} {prs : List Rx} {E : XK} (h : Ev te σ H (.str z)) (zl : z.length ≤ 3000) (few : (Txt.split z "\n").length ≤ 200) (txt : ∀ y ∈ Txt.split z "\n", Txt8 260 y) (rd : Rd z prs)
    (k : ∀ H3 b dx d (es : List Rc), Ex H H3 → BkAt C CB H3 b dx d (es.map Rc.ent) (lastK (prs.map lnx)) → es.map (fun e => ((e.n, e.ra, e.R) : Rx)) = prs → (∀ e ∈ es, e.R = e.D) → tz En (σ.set i (some (.ref b))) H3) :
    tSeq (tAsg (tCall (spReadB C CB CT) [] E (tCons te tNil)) (gName i)) tz En σ H := h H (Ex.refl H) _ fun H1 e1 => by
  refine ⟨z, rfl, zl, few, txt, fun ze H' b dx d e nb nd B => ?_, fun nz xs rx l H' b dx d ps e nb nd B ep => ?_, fun nz xs rx l no => ?_⟩
  · rcases rd with ⟨_, rfl⟩ | ⟨nz, _⟩
    · exact k H' b dx d [] (e1.trans e) B rfl fun e m => nomatch m
    · exact absurd ze nz
  · rcases rd with ⟨ze, _⟩ | ⟨_, r, lr⟩
    · exact absurd ze nz
    · have lm : (prs.map lnx).length = (Txt.split z "\n").length := by rw [List.length_map, lr]
      have ex : xs = prs.map lnx := by
        have w := rd_uniq rx r (by omega)
        rw [l, ← lm, List.take_length] at w
        exact w
      subst ex
      obtain ⟨es, f1, f2, f3⟩ := es_ex ep
      exact k H' b dx d es (e1.trans e) (by rw [f1]; exact B) f2 f3
  · rcases rd with ⟨ze, _⟩ | ⟨_, r, lr⟩
    · exact absurd ze nz
    · have w := (rd_two rx no r).1
      rw [List.length_map] at w
      omega
theorem q_judged {te : TE} {i : Nat} {tz : TS} {En : Ends} {σ : L2.St} {H : Hp} {z : Str} {E : XK} (h : Ev te σ H (.str z)) (zl : z.length ≤ 3000) (few : (Txt.split z "\n").length ≤ 200) (txt : ∀ y ∈ Txt.split z "\n", Txt8 260 y)
    (kg : ∀ H' t nl rl (prs : List Rx), Ex H H' → Rd z prs → H' t = some (.lst [.int 0, .ref nl, .ref rl]) → H' nl = some (.lst ((prs.map (·.1)).map V.int)) → H' rl = some (.lst (prs.map fun x => V.ref x.2.1)) → (∀ x ∈ prs, H' x.2.1 = some (.lst (x.2.2.map V.str))) → tz En (σ.set i (some (.ref t))) H')
    (kb : z ≠ "" → ∀ xs, RdTo (Txt.split z "\n") xs → xs.length < (Txt.split z "\n").length → (∀ y, ¬ RdTo (Txt.split z "\n") (xs ++ [y])) → ∀ H' t nl rl, Ex H H' → H' t = some (.lst [.int ((xs.length : Int) + 1), .ref nl, .ref rl]) → tz En (σ.set i (some (.ref t))) H') :
    tSeq (tAsg (tCall spJudged [] E (tCons te tNil)) (gName i)) tz En σ H := h H (Ex.refl H) _ fun H1 e1 =>
  ⟨z, rfl, zl, few, txt, (fun ze H' t nl rl e ht hn hr => kg H' t nl rl [] (e1.trans e) (.inl ⟨ze, rfl⟩) ht hn hr (fun x m => nomatch m)), fun nz prs rd l H' t nl rl e ht hn hr he => kg H' t nl rl prs (e1.trans e) (.inr ⟨nz, rd, l⟩) ht hn hr he, fun nz xs rx l no H' t nl rl e ht => kb nz xs rx l no H' t nl rl (e1.trans e) ht⟩
/-- _law_right(text) -/
def TxtB (z : Str) : Prop := z.length ≤ 3000 ∧ (Txt.split z "\n").length ≤ 200 ∧ ∀ y ∈ Txt.split z "\n", Txt8 260 y
def spRight : Sp := fun vs H Q _ => ∃ z : Str, vs = [.str z] ∧ TxtB z ∧ ∀ H', Ex H H' → Q (.bl true) H'
theorem ok__law_right (T : Txt P K mg) : FnOk P w K mg base CX0 19 T.f__law_right T.d__law_right ["_law_text"] spRight := by
  refine T.F__law_right.ok sc__law_right (fun vs H Q E h => ?_) (fun cdv A outer s H vs Q E hr h => ?_)
  · obtain ⟨z, rfl, _⟩ := h
    rfl
  · obtain ⟨z, rfl, ⟨zl, few, txt⟩, q⟩ := h
    refine ⟨_, (pss_cons (ps_set (i := 1) sc__law_right.nd rfl (.inl rfl) (pe_call (ok__law_judged T) (hr.mono (by decide)) rfl T.g__law_judged T.F__law_judged.kp T.b__law_judged .nil pass0 (pa_cons (pv 0) pa_nil)))
      (pss_cons (ps_if (pt_cmpR op_gt (pe_ix ix_list (pv 1) pe_int (fun _ _ => rfl)) pe_int (nomark _)) (pss_one (ps_ret (pe_call (ok__law_refused T) (hr.mono (by decide)) rfl T.g__law_refused T.F__law_refused.kp T.b__law_refused .nil pass0 (pa_cons (pv 0) (pa_cons (pe_ix ix_list (pv 1) pe_int (fun _ _ => rfl)) pa_nil))))) pss_nil)
      (pss_cons (ps_set (i := 2) sc__law_right.nd rfl (.inl rfl) pe_int)
      (Evl.pss_cut (ps_if (pt_cmpR op_gt (pe_callB call_len_seq (by rfl) T.n_len PySem.boot_len (pa_cons (pe_ix ix_list (pv 1) pe_int (fun _ _ => rfl)) pa_nil)) pe_int (nomark _)) (pss_one (ps_set (i := 2) sc__law_right.nd rfl (.inl rfl) (pe_op op_add (pe_ix ix_list (pe_ix ix_list (pv 1) pe_int (fun _ _ => rfl)) (pe_op op_sub (pe_callB call_len_seq (by rfl) T.n_len PySem.boot_len (pa_cons (pe_ix ix_list (pv 1) pe_int (fun _ _ => rfl)) pa_nil)) pe_int) (fun _ _ => rfl)) pe_int))) pss_nil)
      (pss_cons (ps_set (i := 3) sc__law_right.nd rfl (.inl rfl) (pe_call (ok_read_book T) (hr.mono (by decide)) rfl T.g_read_book T.F_read_book.kp T.b_read_book .nil passL0 (pa_cons (pv 0) pa_nil)))
      (pss_one (ps_ret (pe_and (pe_call (ok__law_state T) (hr.mono (by decide)) rfl T.g__law_state T.F__law_state.kp T.b__law_state .nil pass0 (pa_cons (pv 3) (pa_cons (pe_ix ix_list (pv 1) pe_int (fun _ _ => rfl)) (pa_cons (pe_ix ix_list (pv 1) pe_int (fun _ _ => rfl)) (pa_cons (pv 2) pa_nil))))) (pe_one (pe_call (okN__law_same T 2) (hr.mono (by decide)) rfl T.g__law_same T.F__law_same.kp T.b__law_same .nil pass0 (pa_cons (pe_call (ok_book_text T) (hr.mono (by decide)) rfl T.g_book_text T.F_book_text.kp T.b_book_text .nil pass0 (pa_cons (pv 3) pa_nil)) (pa_cons (pv 0) pa_nil)))))))))))), ?_⟩
    refine q_judged (ev_var rfl) zl few txt (fun H1 t nl rl prs e1 rd ht hn hrl each => ?_) (fun nz xs rx lx no H1 t nl rl e1 ht => ?_)
    rotate_left
    · refine q_when (b := true) (et_is (et_test (ev_op (ev_op (ev_var rfl) ev_c (rv_ixL (v := .int ((xs.length : Int) + 1)) (sq_of ht) rfl)) ev_c (fun H1 _ Q q => ⟨_, 0, rfl, rfl, q H1 (Ex.refl H1)⟩))) (decide_eq_true (by omega))) (fun _ H2 e2 => ?_) (fun c => by cases c)
      exact s_ret (v := .bl true) (ev_call (ea_cons (ev_var rfl) (ea_cons (ev_op (ev_var rfl) ev_c (rv_ixL (v := .int ((xs.length : Int) + 1)) (sq_of (e2 _ _ ht)) rfl)) ea_nil)) fun H3 e3 Q q E => ⟨z, xs, rfl, nz, zl, few, txt, rx, lx, no, q⟩) fun H3 e3 => q H3 ((e1.trans e2).trans e3)
    refine q_when (b := false) (et_is (et_test (ev_op (ev_op (ev_var rfl) ev_c (rv_ixL (v := .int 0) (sq_of ht) rfl)) ev_c (fun H1 _ Q q => ⟨_, 0, rfl, rfl, q H1 (Ex.refl H1)⟩))) rfl) (fun c => by cases c) (fun _ H2 e2 => ?_)
    obtain ⟨LK, hLK⟩ : ∃ LK, lastK (prs.map lnx) = LK := ⟨_, rfl⟩
    have few24 := (kgood_top rd.good).1
    rw [List.length_map] at few24
    refine q_asg (v := .int 1) ev_c fun H3 e3 => ?_
    have e13 := e2.trans e3
    have evn : ∀ {v2 v3 : Option V} {H4 : Hp}, Ex H1 H4 → Ev (tOp (rIxL K) (tVar 1) (tC (.int 1))) [some (V.str z), some (.ref t), v2, v3] H4 (.ref nl) := fun e4 => ev_op (ev_var rfl) ev_c (rv_ixL (v := .ref nl) (sq_of (e4 _ _ ht)) rfl)
    have evr : ∀ {v2 v3 : Option V} {H4 : Hp}, Ex H1 H4 → Ev (tOp (rIxL K) (tVar 1) (tC (.int 2))) [some (V.str z), some (.ref t), v2, v3] H4 (.ref rl) := fun e4 => ev_op (ev_var rfl) ev_c (rv_ixL (v := .ref rl) (sq_of (e4 _ _ ht)) rfl)
    have lni : ((prs.map (·.1)).map V.int).length = prs.length := by rw [List.length_map, List.length_map]
    refine ⟨fun σ' H' => σ' = [some (V.str z), some (.ref t), some (.int (LK + 1)), none] ∧ Ex H1 H', ?_, ?_⟩
    · refine s_when (b := decide ((0 : Int) < (prs.length : Int))) (et_test (ev_op (ev_is (ev_len (evn e13) (sq_of (e13 _ _ hn))) (by rw [lni])) ev_c (fun H1 _ Q q => ⟨_, _, rfl, rfl, q H1 (Ex.refl H1)⟩))) (fun c H4 e4 => ?_) (fun c H4 e4 => ⟨?_, e13.trans e4⟩)
      · have pos := of_decide_eq_true c
        have e14 := e13.trans e4
        refine s_asg (v := .int (LK + 1)) (ev_op (ev_op (evn e14) (ev_op (ev_is (ev_len (evn e14) (sq_of (e14 _ _ hn))) (by rw [lni])) ev_c (fun H1 _ Q q => ⟨_, _, rfl, rfl, q H1 (Ex.refl H1)⟩)) (rv_ixL (v := .int LK) (sq_of (e14 _ _ hn)) (by
          have e : (prs.length : Int) - 1 = ((prs.length - 1 : Nat) : Int) := by omega
          rw [e, ← hLK]
          exact atI_nat (last_at (by omega))))) ev_c (fun H1 _ Q q => ⟨_, _, rfl, rfl, q H1 (Ex.refl H1)⟩)) fun H5 e5 => ⟨rfl, e14.trans e5⟩
      · have z0 : prs = [] := List.length_eq_zero_iff.mp (by have := of_decide_eq_false c; omega)
        rw [z0] at hLK
        have z1 : (0 : Int) = LK := hLK
        rw [← z1]
        rfl
    rintro σ' H4 ⟨rfl, e14⟩
    refine q_readR (ev_var rfl) zl few txt rd fun H5 b dx d es e5 B hes hR => ?_
    rw [hLK] at B
    have e15 := e14.trans e5
    have o := rd.esok hes hR
    rw [hLK] at o
    have tab : TabAt H5 nl rl es := by
      refine ⟨?_, ?_, fun e m => each (e.n, e.ra, e.R) (rx_mem hes m) |> fun h => e15 _ _ h⟩
      · have z1 : (es.map Rc.n).map V.int = (prs.map (·.1)).map V.int := by rw [← hes, List.map_map, List.map_map, List.map_map]; rfl
        rw [z1]
        exact e15 _ _ hn
      · have z1 : (es.map fun e => V.ref e.ra) = prs.map fun x => V.ref x.2.1 := by rw [← hes, List.map_map]; rfl
        rw [z1]
        exact e15 _ _ hrl
    have tx := rd.text hes hR
    refine s_ret (v := .bl true) (ev_is (ev_andV (a := true) (b := true) (ev_stateN (ev_var rfl) (evn e15) (evr e15) (ev_var rfl) B tab o (rd.nm hes hR)) (fun _ => ev_sN (n := 2) (x := .str z) (ev_call (ea_cons (ev_var rfl) ea_nil) fun H6 e6 Q q E => ⟨b, dx, d, es, LK, rfl, B.mono e6, o, by rw [tx]; exact q⟩) (ev_var rfl) rfl)) rfl) fun H6 e6 => q H6 ((e1.trans e15).trans e6)
end
/-! ### how long the lines of a text are -/
section
open Evl
/-- no piece without a line's end is longer than B -/
def Seg (B : Nat) (l : List Nat) : Prop := ∀ s w t, l = s ++ (w ++ t) → 10 ∉ w → w.length ≤ B
theorem Seg.mono {A B : Nat} {l : List Nat} (h : Seg A l) (le : A ≤ B) : Seg B l := fun s w t e n => Nat.le_trans (h s w t e n) le
theorem seg_short {l : List Nat} {n : Nat} (h : l.length ≤ n) : Seg n l := fun s w t e _ => by
  have := congrArg List.length e
  rw [List.length_append, List.length_append] at this
  omega
theorem Seg.pre {B : Nat} {l m : List Nat} (h : Seg B (l ++ m)) : Seg B l := fun s w t e n => h s w (t ++ m) (by rw [e, List.append_assoc, List.append_assoc]) n
theorem Seg.post {B : Nat} {l m : List Nat} (h : Seg B (l ++ m)) : Seg B m := fun s w t e n => h (l ++ s) w t (by rw [e, List.append_assoc]) n
theorem Seg.take {B : Nat} {l : List Nat} (h : Seg B l) (i : Nat) : Seg B (l.take i) := Seg.pre (m := l.drop i) (by rw [List.take_append_drop]; exact h)
theorem Seg.drop {B : Nat} {l : List Nat} (h : Seg B l) (i : Nat) : Seg B (l.drop i) := Seg.post (l := l.take i) (by rw [List.take_append_drop]; exact h)
theorem Seg.app {A B : Nat} {l m : List Nat} (h1 : Seg A l) (h2 : Seg B m) : Seg (A + B) (l ++ m) := fun s w t e n => by
  rcases List.append_eq_append_iff.mp e with ⟨a, e1, e2⟩ | ⟨a, e1, e2⟩
  · have := h2 a w t e2 n
    omega
  · rcases List.append_eq_append_iff.mp e2 with ⟨b, e3, e4⟩ | ⟨b, e3, e4⟩
    · have r1 := h1 s w b (by rw [e1, e3]) n
      omega
    · have r1 := h1 s a [] (by rw [e1, List.append_nil]) (fun m => n (by rw [e3]; exact List.mem_append_left _ m))
      have r2 := h2 [] b t (by rw [e4]; rfl) (fun m => n (by rw [e3]; exact List.mem_append_right _ m))
      rw [e3, List.length_append]
      omega
theorem seg_nl {B : Nat} {l m : List Nat} (h1 : Seg B l) (h2 : Seg B m) : Seg B (l ++ 10 :: m) := fun s w t e n => by
  have hm : Seg B (10 :: m) := fun s w t e n => by
    cases s with
    | nil =>
      cases w with
      | nil => exact Nat.zero_le _
      | cons c w =>
        have e : 10 :: m = c :: (w ++ t) := e
        injection e with e1 _
        exact absurd (by rw [e1]; exact List.mem_cons_self) n
    | cons c s =>
      have e : 10 :: m = c :: (s ++ (w ++ t)) := e
      injection e with _ e2
      exact h2 s w t e2 n
  rcases List.append_eq_append_iff.mp e with ⟨a, e1, e2⟩ | ⟨a, e1, e2⟩
  · exact hm a w t e2 n
  · rcases List.append_eq_append_iff.mp e2 with ⟨b, e3, e4⟩ | ⟨b, e3, e4⟩
    · exact h1 s w b (by rw [e1, e3]) n
    · cases b with
      | nil =>
        rw [List.append_nil] at e3
        exact h1 s w [] (by rw [e1, e3, List.append_nil]) n
      | cons c b =>
        have e4 : 10 :: m = c :: (b ++ t) := e4
        injection e4 with e5 _
        exact absurd (by rw [e3, ← e5]; simp) n
theorem seg_join {B : Nat} : ∀ {ps : List (List Nat)}, (∀ p ∈ ps, p.length ≤ B) → Seg B (TL.joinL [10] ps)
  | [], _ => seg_short (Nat.zero_le _)
  | [p], h => seg_short (h p List.mem_cons_self)
  | p :: q :: r, h => seg_nl (seg_short (h p List.mem_cons_self)) (seg_join fun x m => h x (List.mem_cons_of_mem _ m))
theorem spl10 : ∀ (l acc : List Nat), 10 ∉ acc → (TL.spl [10] 0 acc l).length = l.count 10 + 1 ∧ (∀ p ∈ TL.spl [10] 0 acc l, 10 ∉ p) ∧ ∀ p ∈ TL.spl [10] 0 acc l, ∃ s t, acc ++ l = s ++ (p ++ t)
  | [], acc, h => by
    rw [TL.spl_nil]
    refine ⟨rfl, fun p m => ?_, fun p m => ?_⟩
    · rw [List.mem_singleton.mp m]; exact h
    · rw [List.mem_singleton.mp m]; exact ⟨[], [], by simp⟩
  | c :: r, acc, h => by
    by_cases hc : c = 10
    · subst hc
      have hit : TL.pre [10] (10 :: r) = true := by simp [TL.pre]
      rw [TL.spl_hit hit]
      obtain ⟨i1, i2, i3⟩ := spl10 r [] (by simp)
      refine ⟨?_, fun p m => ?_, fun p m => ?_⟩
      · show (acc :: TL.spl [10] 0 [] r).length = _
        rw [List.length_cons, i1, List.count_cons_self]
      · rcases List.mem_cons.mp m with rfl | m
        · exact h
        · exact i2 p m
      · rcases List.mem_cons.mp m with rfl | m
        · exact ⟨[], 10 :: r, by simp⟩
        · obtain ⟨s, t, e⟩ := i3 p m
          have e : r = s ++ (p ++ t) := e
          exact ⟨acc ++ 10 :: s, t, by rw [e]; simp⟩
    · have miss : TL.pre [10] (c :: r) = false := by
        simp [TL.pre]
        exact hc
      rw [TL.spl_miss miss]
      obtain ⟨i1, i2, i3⟩ := spl10 r (acc ++ [c]) (fun m => by
        rcases List.mem_append.mp m with m | m
        · exact h m
        · exact hc (List.mem_singleton.mp m).symm)
      refine ⟨?_, i2, fun p m => ?_⟩
      · rw [i1, List.count_cons_of_ne (by simpa using hc)]
      · obtain ⟨s, t, e⟩ := i3 p m
        exact ⟨s, t, by rw [← e]; simp⟩
/-- a text of at most n signs, c line ends, lines of at most B signs -/
structure Tz (n c B : Nat) (z : Str) : Prop where
  len : z.cps.toList.length ≤ n
  cnt : z.cps.toList.count 10 ≤ c
  seg : Seg B z.cps.toList
  asc : ∀ x ∈ z.cps.toList, x < 128
theorem Tz.bound {n c B : Nat} {z : Str} (t : Tz n c B z) (hn : n ≤ 3000) (hc : c ≤ 199) (hB : B ≤ 260) : TxtB z := by
  have e := TL.split_spl z "\n" (by decide) (TL.kind_ok (by decide +kernel))
  have e : (Txt.split z "\n").map TL.tl = TL.spl [10] 0 [] z.cps.toList := e
  obtain ⟨i1, i2, i3⟩ := spl10 z.cps.toList [] (by simp)
  have zz : z.cps.toList.length = z.length := by simp [Str.length]
  refine ⟨by have := t.len; omega, ?_, fun y hy => ?_⟩
  · have l := congrArg List.length e
    rw [List.length_map, i1] at l
    have := t.cnt
    omega
  · have m : TL.tl y ∈ TL.spl [10] 0 [] z.cps.toList := by rw [← e]; exact List.mem_map_of_mem hy
    obtain ⟨s, r, hs⟩ := i3 _ m
    have hs : z.cps.toList = s ++ (TL.tl y ++ r) := hs
    have b := t.seg s (TL.tl y) r hs (i2 _ m)
    have l2 : y.cps.size = (TL.tl y).length := by simp [TL.tl]
    exact ⟨by omega, fun x hx => t.asc x (by rw [hs]; exact List.mem_append_right _ (List.mem_append_left _ hx))⟩
theorem Txt8.tz {n : Nat} {z : Str} (t : Txt8 n z) : Tz n n n z := by
  have l : z.cps.toList.length = z.cps.size := Array.length_toList
  have := t.1
  exact ⟨by omega, Nat.le_trans List.count_le_length (by omega), seg_short (by omega), t.2⟩
/-- a line without a line's end -/
def Nl (n : Nat) (z : Str) : Prop := Txt8 n z ∧ 10 ∉ z.cps.toList
theorem Nl.app {n m : Nat} {x y : Str} (h1 : Nl n x) (h2 : Nl m y) : Nl (n + m) (x ++ y) := ⟨h1.1.app h2.1, fun h => by
  rw [app_codes] at h
  exact (List.mem_append.mp h).elim h1.2 h2.2⟩
theorem Nl.mono {n m : Nat} {z : Str} (h : Nl n z) (le : n ≤ m) : Nl m z := ⟨h.1.mono le, h.2⟩
theorem Tz.mono {n c B n' c' B' : Nat} {z : Str} (t : Tz n c B z) (h1 : n ≤ n') (h2 : c ≤ c') (h3 : B ≤ B') : Tz n' c' B' z := ⟨Nat.le_trans t.len h1, Nat.le_trans t.cnt h2, t.seg.mono h3, t.asc⟩
theorem num_nl {n : Int} (h0 : 0 ≤ n) (h1 : n < 10000) : Nl 4 (toString n : Str) := by
  obtain ⟨k, rfl⟩ := Int.eq_ofNat_of_zero_le h0
  have e : (toString (k : Int) : Str).cps.toList = TL.numL k := TL.tl_num k
  have l : (TL.numL k).length ≤ 4 := TL.numL_len (by decide) (by omega)
  have l2 : (toString (k : Int) : Str).cps.toList.length = (toString (k : Int) : Str).cps.size := Array.length_toList
  exact ⟨⟨by rw [e] at l2; omega, fun c hc => by
    rw [e] at hc
    have := TL.numL_digits k c hc
    omega⟩, by rw [e]; exact TL.numL_free (.inl (by decide))⟩
end
section
open Evl
theorem cnt_join2 : ∀ {ps : List (List Nat)}, (TL.joinL [10] ps).count 10 ≤ ps.length + (ps.map (List.count 10)).sum
  | [] => Nat.zero_le _
  | [p] => by
    show p.count 10 ≤ 1 + (p.count 10 + 0)
    omega
  | p :: q :: r => by
    have ih := cnt_join2 (ps := q :: r)
    show (p ++ (10 :: TL.joinL [10] (q :: r))).count 10 ≤ (q :: r).length + 1 + (p.count 10 + ((q :: r).map (List.count 10)).sum)
    rw [List.count_append, List.count_cons_self]
    omega
/-- lines of at most n signs, with few line ends in them -/
structure Lns (n : Nat) (L : List Str) : Prop where
  txt : ∀ z ∈ L, Txt8 n z
  cnt : (L.map fun z => z.cps.toList.count 10).sum ≤ 170
  few : L.length ≤ 27
  tot : (L.map (·.length)).sum ≤ 2300
theorem Lns.tz {n : Nat} {L : List Str} (h : Lns n L) : Tz 2330 197 n (Txt.join "\n" L) := by
  have e : TL.tl (Txt.join "\n" L) = TL.joinL [10] (L.map TL.tl) := by rw [TL.join_eq, TL.tl_join]; rfl
  have e : (Txt.join "\n" L).cps.toList = TL.joinL [10] (L.map TL.tl) := e
  have pl : ∀ p ∈ L.map TL.tl, p.length ≤ n ∧ ∀ x ∈ p, x < 128 := fun p m => by
    obtain ⟨z, hz, rfl⟩ := List.mem_map.mp m
    have l : (TL.tl z).length = z.cps.size := by simp [TL.tl]
    exact ⟨by have := (h.txt z hz).1; omega, (h.txt z hz).2⟩
  refine ⟨?_, ?_, ?_, fun x hx => ?_⟩
  · have l := StrLaws.join_length_le "\n" L
    have l1 : ("\n" : Str).length = 1 := by decide
    have s := h.tot
    have w : (Txt.join "\n" L).cps.toList.length = (Str.join "\n" L).length := by rw [TL.join_eq]; simp [Str.length]
    rw [w]
    rw [l1] at l
    have := h.few
    omega
  · rw [e]
    have c := cnt_join2 (ps := L.map TL.tl)
    rw [List.length_map, List.map_map] at c
    have z : (L.map (List.count 10 ∘ TL.tl)).sum = (L.map fun z => z.cps.toList.count 10).sum := rfl
    have := h.few
    have := h.cnt
    omega
  · rw [e]
    exact seg_join fun p m => (pl p m).1
  · rw [e] at hx
    rcases mem_joinL hx with m | ⟨p, mp, m⟩
    · rw [List.mem_singleton.mp m]; decide
    · exact (pl p mp).2 x m
theorem nl_cnt {L : List Str} {n : Nat} (h : ∀ z ∈ L, Nl n z) : (L.map fun z => z.cps.toList.count 10).sum = 0 := by
  induction L with
  | nil => rfl
  | cons a r ih =>
    rw [List.map_cons, List.sum_cons, ih fun z m => h z (List.mem_cons_of_mem _ m), List.count_eq_zero.mpr (h a List.mem_cons_self).2]
theorem lns_nl {L : List Str} {n m : Nat} (h : ∀ z ∈ L, Nl n z) (le : n ≤ m ∧ n ≤ 80) (few : L.length ≤ 27) : Lns m L := ⟨fun z hz => (h z hz).1.mono le.1, by rw [nl_cnt h]; decide, few, by
  have s := sum_le (L := L) (k := n) fun z hz => (h z hz).1.1
  have q : L.length * n ≤ 27 * 80 := Nat.mul_le_mul few le.2
  omega⟩
/-- one other line between -/
theorem lns_put {A B : List Str} {y : Str} {n m k : Nat} (h1 : ∀ z ∈ A, Nl n z) (h2 : ∀ z ∈ B, Nl n z) (ty : Txt8 k y) (cy : y.cps.toList.count 10 ≤ 170) (le : (n ≤ m ∧ n ≤ 80) ∧ k ≤ 200) (lk : k ≤ m) (few : A.length + 1 + B.length ≤ 27) : Lns m (A ++ [y] ++ B) := by
  refine ⟨fun z hz => ?_, ?_, by rw [List.length_append, List.length_append]; simp only [List.length_cons, List.length_nil]; omega, ?_⟩
  · rcases List.mem_append.mp hz with hz | hz
    · rcases List.mem_append.mp hz with hz | hz
      · exact (h1 z hz).1.mono le.1.1
      · rw [List.mem_singleton.mp hz]; exact ty.mono lk
    · exact (h2 z hz).1.mono le.1.1
  · rw [List.map_append, List.map_append, List.sum_append, List.sum_append, nl_cnt h1, nl_cnt h2]
    simp only [List.map_cons, List.map_nil, List.sum_cons, List.sum_nil]
    omega
  · have s1 := sum_le (L := A) (k := n) fun z hz => (h1 z hz).1.1
    have s2 := sum_le (L := B) (k := n) fun z hz => (h2 z hz).1.1
    have q1 : A.length * n ≤ A.length * 80 := Nat.mul_le_mul_left _ le.1.2
    have q2 : B.length * n ≤ B.length * 80 := Nat.mul_le_mul_left _ le.1.2
    have ly : y.length ≤ k := ty.1
    have lk := le.2
    rw [List.map_append, List.map_append, List.sum_append, List.sum_append]
    simp only [List.map_cons, List.map_nil, List.sum_cons, List.sum_nil]
    omega
theorem Tz.nl {n c B : Nat} {z : Str} (t : Tz n c B z) : Tz (n + 1) (c + 1) B (z ++ "\n") := by
  have e : (z ++ "\n" : Str).cps.toList = z.cps.toList ++ 10 :: [] := by rw [app_codes]; rfl
  refine ⟨?_, ?_, ?_, fun x hx => ?_⟩
  · rw [e, List.length_append]
    have := t.len
    simp only [List.length_cons, List.length_nil]
    omega
  · rw [e, List.count_append, List.count_cons_self]
    have := t.cnt
    show _ + (0 + 1) ≤ _
    omega
  · rw [e]
    exact seg_nl t.seg (seg_short (Nat.zero_le _))
  · rw [e] at hx
    rcases List.mem_append.mp hx with m | m
    · exact t.asc x m
    · rw [List.mem_singleton.mp m]; decide
theorem Nl.cut {n : Nat} {z : Str} (h : Nl n z) (lo hi : Option Int) : Nl n (cutS z lo hi) := ⟨h.1.cut lo hi, fun m => h.2 (by
  have e : (cutS z lo hi).cps.toList = (z.cps.toList.drop (HT.sIx z.length 0 lo)).take (HT.sIx z.length z.length hi - HT.sIx z.length 0 lo) := rfl
  rw [e] at m
  exact List.mem_of_mem_drop (List.mem_of_mem_take m))⟩
end
/-! ### what is no literal -/
theorem not_lit {z : Str} (hd : dash z = false) (h : isName z = false) : isLit z = false := by unfold isLit; rw [bare_no hd]; exact h
theorem not_name {z : Str} (h : ∀ _ : isName z = true, False) : isName z = false := by
  cases e : isName z with
  | false => rfl
  | true => exact (h e).elim
theorem dash_cons {z : Str} {c : Nat} {r : List Nat} (e : z.cps.toList = c :: r) (h : c ≠ 45) : dash z = false := by
  unfold dash dashL
  rw [e]
  exact beq_eq_false_iff_ne.mpr fun q => h (Option.some.inj q)
theorem name_head {z : Str} {c : Nat} {r : List Nat} (e : z.cps.toList = c :: r) (h : isName z = true) : ltr c = true := by
  obtain ⟨_, _, hd, _⟩ := name_len h
  rw [e] at hd
  exact hd
theorem ltr45 {c : Nat} (h : ltr c = true) : c ≠ 45 := fun e => by rw [e] at h; exact absurd h (by decide)
theorem barred_at {i c : Nat} (h : (" !\"#$&'()*+,./:;<=>?@ABCDEFGHIJKLMNOPQRSTUVWXYZ[\\]^_`{|}~\n" : Str).cps[i]? = some c) : lod c = false ∧ c ≠ 45 := by
  rw [← Array.getElem?_toList] at h
  have q : ∀ c ∈ (" !\"#$&'()*+,./:;<=>?@ABCDEFGHIJKLMNOPQRSTUVWXYZ[\\]^_`{|}~\n" : Str).cps.toList, lod c = false ∧ c ≠ 45 := by decide
  exact q c (List.mem_of_getElem? h)
/-- _law_bad(source, name) -/
def spBadL : Sp := fun vs H Q _ => ∃ (a l : Addr) (ns : List Int) (nm : Str), vs = [.ref a, .str nm] ∧ SrcL H a l ns ∧ isName nm = true ∧ ∀ (H' : Hp) (z : Str), isLit z = false → Txt8 20 z → SrcL H' a l ns → But a H H' → Q (.str z) H'
theorem ok__law_bad (T : Txt P K mg) : FnOk P w K mg base CX0 2 T.f__law_bad T.d__law_bad ["_law_source_here", "_law_name_here"] spBadL := by
  refine T.F__law_bad.ok sc__law_bad (fun vs H Q E h => ?_) (fun cdv A outer s H vs Q E hr h => ?_)
  · obtain ⟨a, l, ns, nm, rfl, _⟩ := h
    rfl
  · obtain ⟨a, l, ns, nm, rfl, S, hn, q⟩ := h
    refine ⟨_, (pss_cons (ps_set (i := 2) sc__law_bad.nd rfl (.inl rfl) pe_str)
      (pss_cons (ps_set (i := 3) sc__law_bad.nd rfl (.inl rfl) (pe_call (okL__law_take T) (hr.mono (by decide)) rfl T.g__law_take T.F__law_take.kp T.b__law_take .nil pass0 (pa_cons (pv 0) (pa_cons pe_int pa_nil))))
      (pss_cons (ps_if (pt_cmpR op_eq (pv 3) pe_int (nomark _)) (pss_one (ps_ret pe_str)) pss_nil)
      (pss_cons (ps_if (pt_cmpR op_eq (pv 3) pe_int (nomark _)) (pss_one (ps_ret pe_str)) pss_nil)
      (pss_cons (ps_if (pt_cmpR op_eq (pv 3) pe_int (nomark _)) (pss_one (ps_ret (pe_op op_add_str pe_str (pv 1)))) pss_nil)
      (pss_cons (ps_if (pt_cmpR op_eq (pv 3) pe_int (nomark _)) (pss_one (ps_ret (pe_op op_add_str (pv 1) (pe_slice sl_str pe_str (po_some (pe_op op_sub (pe_callB call_len_str (by rfl) T.n_len PySem.boot_len (pa_cons (pv 1) pa_nil)) pe_int)) po_none)))) pss_nil)
      (pss_cons (ps_if (pt_cmpR op_eq (pv 3) pe_int (nomark _)) (pss_one (ps_ret (pe_op op_add_str pe_str (pe_slice sl_str (pv 1) (po_some pe_int) po_none)))) pss_nil)
      (pss_cons (ps_set (i := 4) sc__law_bad.nd rfl (.inl rfl) (pe_call (okL__law_take T) (hr.mono (by decide)) rfl T.g__law_take T.F__law_take.kp T.b__law_take .nil pass0 (pa_cons (pv 0) (pa_cons (pe_op op_add pe_int (pe_callB call_len_str (by rfl) T.n_len PySem.boot_len (pa_cons (pv 1) pa_nil))) pa_nil))))
      (pss_one (ps_ret (pe_op op_add_str (pe_op op_add_str (pe_slice sl_str (pv 1) po_none (po_some (pv 4))) (pe_item_str (pv 2) (pe_call (okL__law_take T) (hr.mono (by decide)) rfl T.g__law_take T.F__law_take.kp T.b__law_take .nil pass0 (pa_cons (pv 0) (pa_cons pe_int pa_nil))) (fun _ _ => rfl))) (pe_slice sl_str (pv 1) (po_some (pv 4)) po_none)))))))))))), ?_⟩
    obtain ⟨l1, l8, lh, la⟩ := name_len hn
    have nt := name_txt hn
    have ncode := len_codes nm
    obtain ⟨c0, r0, hc0⟩ : ∃ c r, nm.cps.toList = c :: r := by
      cases e : nm.cps.toList with
      | nil => rw [e] at l1; simp at l1
      | cons c r => exact ⟨c, r, rfl⟩
    have lc0 := name_head hc0 hn
    refine ⟨.ref a, rfl, a, 6, l, ns, rfl, S, by decide, by decide, fun H1 st s0 s1 S1 B1 => ?_⟩
    refine ⟨_, rfl, rfl, _, rfl, ite2 (fun e => ?_) (fun e => ?_)⟩
    · exact q H1 "" (by decide) ⟨by decide, by decide⟩ S1 B1
    refine ⟨_, rfl, rfl, _, rfl, ite2 (fun e => ?_) (fun e => ?_)⟩
    · exact q H1 "-" (by decide) ⟨by decide, by decide⟩ S1 B1
    refine ⟨_, rfl, rfl, _, rfl, ite2 (fun e => ?_) (fun e => ?_)⟩
    · refine ⟨_, rfl, _, _, rfl, rfl, line_of ?_, q H1 _ ?_ ?_ S1 B1⟩
      · have h1 : ("--" : Str).length = 2 := by decide
        omega
      · have e2 : ("--" ++ nm : Str) = "-" ++ ("-" ++ nm) := str_eq (by rw [minus_codes, minus_codes, app_codes]; rfl)
        rw [e2]
        unfold isLit
        rw [bare_minus]
        exact not_name fun h => absurd (name_head (minus_codes nm) h) (by decide)
      · exact ((show Txt8 2 "--" from ⟨by decide, by decide⟩).app nt).mono (by decide)
    refine ⟨_, rfl, rfl, _, rfl, ite2 (fun e => ?_) (fun e => ?_)⟩
    · refine ⟨_, rfl, _, rfl, nm, rfl, line_of (by omega), _, _, rfl, rfl, _, rfl, _, rfl, line_of (by decide), _, _, rfl, rfl, line_of ?_, q H1 _ ?_ ?_ S1 B1⟩
      · have := len_codes (cutS "abcdefgh" (some ((nm.length : Int) - 1)) none); have e3 := congrArg List.length (cut_fr "abcdefgh" (i := (nm.length : Int) - 1) (by omega)); rw [List.length_drop] at e3
        have e8 : ("abcdefgh" : Str).cps.toList.length = 8 := by decide
        omega
      · have e1 := app_codes nm (cutS "abcdefgh" (some ((nm.length : Int) - 1)) none)
        rw [cut_fr "abcdefgh" (by omega), hc0] at e1
        refine not_lit (dash_cons e1 (ltr45 lc0)) (not_name fun h => ?_)
        obtain ⟨_, h8, _, _⟩ := name_len h
        rw [e1, List.cons_append, List.length_cons, List.length_append, List.length_drop] at h8
        have e8 : ("abcdefgh" : Str).cps.toList.length = 8 := by decide
        rw [hc0, List.length_cons] at ncode
        rw [e8] at h8
        rw [hc0, List.length_cons] at l8
        omega
      · exact (nt.app (Txt8.cut (show Txt8 8 "abcdefgh" from ⟨by decide, by decide⟩) _ _)).mono (by decide)
    refine ⟨_, rfl, rfl, _, rfl, ite2 (fun e => ?_) (fun e => ?_)⟩
    · refine ⟨_, rfl, 1, rfl, _, rfl, line_of (by omega), _, _, rfl, rfl, line_of ?_, q H1 _ ?_ ?_ S1 B1⟩
      · have := len_codes (cutS nm (some 1) none); have e3 := congrArg List.length (cut_fr nm (i := 1) (by decide)); rw [List.length_drop] at e3
        have h1 : ("7" : Str).length = 1 := by decide
        omega
      · have e1 : ("7" ++ cutS nm (some 1) none : Str).cps.toList = 55 :: (cutS nm (some 1) none).cps.toList := by rw [app_codes]; rfl
        exact not_lit (dash_cons e1 (by decide)) (not_name fun h => absurd (name_head e1 h) (by decide))
      · exact ((show Txt8 1 "7" from ⟨by decide, by decide⟩).app (Txt8.cut nt _ _)).mono (by decide)
    refine ⟨.ref a, rfl, _, rfl, nm, rfl, line_of (by omega), _, _, rfl, rfl, a, _, l, ns, rfl, S1, by omega, by omega, fun H2 at_ a0 a1 S2 B2 => ?_⟩
    refine ⟨_, rfl, _, rfl, _, rfl, _, rfl, line_of (by omega), _, rfl, .ref a, rfl, a, 58, l, ns, rfl, S2, by decide, by decide, fun H3 k k0 k1 S3 B3 => ?_⟩
    obtain ⟨c, hc, hl, tc⟩ := item_of (z := (" !\"#$&'()*+,./:;<=>?@ABCDEFGHIJKLMNOPQRSTUVWXYZ[\\]^_`{|}~\n" : Str)) k0 k1 (by decide) (by decide)
    obtain ⟨nl, n45⟩ := barred_at hc
    have t1 := Txt8.cut nt none (some at_)
    have t2 := Txt8.cut nt (some at_) none
    have q1 := t1.1
    have q2 := t2.1
    have w1 : (cutS nm none (some at_)).length = (cutS nm none (some at_)).cps.size := rfl
    have w2 : (cutS nm (some at_) none).length = (cutS nm (some at_) none).cps.size := rfl
    have w3 : (cutS nm none (some at_) ++ ⟨#[c]⟩ : Str).length ≤ 9 := (t1.app tc).1
    refine ⟨_, _, c, rfl, rfl, k0, by omega, hl, hc, _, _, rfl, rfl, line_of (by show _ + 1 ≤ _; omega), _, rfl, _, rfl, _, rfl, _, rfl, line_of (by omega), _, _, rfl, rfl, line_of (by omega), q H3 _ ?_ (((t1.app tc).app t2).mono (by decide)) S3 ((B1.trans B2).trans B3)⟩
    have e1 : (cutS nm none (some at_) ++ ⟨#[c]⟩ ++ cutS nm (some at_) none : Str).cps.toList = nm.cps.toList.take at_.toNat ++ [c] ++ nm.cps.toList.drop at_.toNat := by rw [app_codes, app_codes, cut_to nm a0, cut_fr nm a0] <;> rfl
    refine not_lit ?_ (not_name fun h => ?_)
    · cases hk : at_.toNat with
      | zero => rw [hk, List.take_zero] at e1; exact dash_cons e1 n45
      | succ n => rw [hk, hc0] at e1; exact dash_cons (r := List.take n r0 ++ [c] ++ List.drop n r0) e1 (ltr45 lc0)
    · obtain ⟨_, _, _, al⟩ := name_len h
      rw [e1, List.all_append, List.all_append] at al
      simp [nl] at al
section
open Evl
theorem takeV (l : List V) (k : Nat) : l.take (min k l.length) = l.take k := by
  by_cases h : k ≤ l.length
  · rw [Nat.min_eq_left h]
  · rw [Nat.min_eq_right (by omega), List.take_of_length_le (Nat.le_refl _), List.take_of_length_le (by omega)]
theorem dropV (l : List V) (k : Nat) : l.drop (min k l.length) = l.drop k := by
  by_cases h : k ≤ l.length
  · rw [Nat.min_eq_left h]
  · rw [Nat.min_eq_right (by omega), List.drop_of_length_le (Nat.le_refl _), List.drop_of_length_le (by omega)]
theorem cutV_to (l : List V) (k : Nat) : cutV l none (some (k : Int)) = l.take k := by
  unfold cutV
  rw [HT.sIx_nat, HT.sIx_none, List.drop_zero, Nat.sub_zero, takeV]
theorem cutV_fr (l : List V) (k : Nat) : cutV l (some (k : Int)) none = l.drop k := by
  unfold cutV
  rw [HT.sIx_nat, HT.sIx_none, dropV]
  exact List.take_of_length_le (by rw [List.length_drop]; omega)
theorem el_catL {ta tb : TE} {σ : L2.St} {H : Hp} {xs ys : List V} (h1 : EvL ta σ H xs) (h2 : EvL tb σ H ys) (len : xs.length + ys.length ≤ 100000) : EvL (tOp rCat ta tb) σ H (xs ++ ys) := el_cat (els_new h1) (els_new h2) len
theorem el_take {σ : L2.St} {H : Hp} {te th : TE} {p : Addr} {xs : List V} {k : Nat} (h : Ev te σ H (.ref p)) (hk : Ev th σ H (.int (k : Int))) (hp : H p = some (.lst xs)) : EvL (tSl (rSlL K) te tNoPart (tPart th)) σ H (xs.take k) := by
  have z := el_sl (K := K) h eo_none (eo_some hk) (sq_of hp)
  rwa [cutV_to] at z
theorem el_drop {σ : L2.St} {H : Hp} {te th : TE} {p : Addr} {xs : List V} {k : Nat} (h : Ev te σ H (.ref p)) (hk : Ev th σ H (.int (k : Int))) (hp : H p = some (.lst xs)) : EvL (tSl (rSlL K) te (tPart th) tNoPart) σ H (xs.drop k) := by
  have z := el_sl (K := K) h (eo_some hk) eo_none (sq_of hp)
  rwa [cutV_fr] at z
theorem cut1 (D : List Str) (p : Nat) : ∃ M : List Str, cutV (D.map V.str) (some (p : Int)) (some ((p + 1 : Nat) : Int)) = M.map V.str ∧ M.length ≤ 1 ∧ ∀ z ∈ M, z ∈ D := by
  refine ⟨(D.drop (min p D.length)).take (min (p + 1) D.length - min p D.length), ?_, ?_, fun z hz => List.mem_of_mem_drop (List.mem_of_mem_take hz)⟩
  · unfold cutV
    rw [HT.sIx_nat, HT.sIx_nat, List.length_map, List.map_take, List.map_drop]
  · rw [List.length_take]
    omega
theorem cut2 (D : List Str) (k : Nat) (hk : k < 2) : ∃ M : List Str, cutV (D.map V.str) (some (12 : Int)) (some ((13 : Int) + (k : Int))) = M.map V.str ∧ M.length ≤ 2 ∧ ∀ z ∈ M, z ∈ D := by
  refine ⟨(D.drop (min 12 D.length)).take (min (13 + k) D.length - min 12 D.length), ?_, ?_, fun z hz => List.mem_of_mem_drop (List.mem_of_mem_take hz)⟩
  · have e : (13 : Int) + (k : Int) = ((13 + k : Nat) : Int) := by omega
    have e2 : (12 : Int) = ((12 : Nat) : Int) := rfl
    rw [e, e2]
    unfold cutV
    rw [HT.sIx_nat, HT.sIx_nat, List.length_map, List.map_take, List.map_drop]
  · rw [List.length_take]
    omega
theorem to_part {te : TE} {σ : L2.St} {H : Hp} {Q : Option Int → Hp → Prop} (h : te σ H fun v H1 => ∃ i, v = .int i ∧ Q (some i) H1) : tPart te σ H Q := h
theorem el_cut1 {σ : L2.St} {H : Hp} {te t1 t2 : TE} {r : Addr} {D M : List Str} {p : Nat} (h : Ev te σ H (.ref r)) (hr : H r = some (.lst (D.map V.str))) (h1 : Ev t1 σ H (.int (p : Int))) (h2 : Ev t2 σ H (.int ((p + 1 : Nat) : Int))) (e : cutV (D.map V.str) (some (p : Int)) (some ((p + 1 : Nat) : Int)) = M.map V.str) : EvL (tSl (rSlL K) te (tPart t1) (tPart t2)) σ H (M.map V.str) := by
  have z := el_sl (K := K) h (eo_some h1) (eo_some h2) (sq_of hr)
  rw [e] at z
  exact z
theorem el_ordL {σ : L2.St} {H : Hp} {te : TE} {L N : List Str} {E : XK} (h : EvL te σ H (L.map V.str)) (few : L.length ≤ 40) (short : ∀ z ∈ L, z.cps.size ≤ 50) (od : Ord (L.map bare) N) : EvL (tCall spOrdered [] E (tCons te tNil)) σ H ((due L N).map V.str) := fun H1 e1 Q q =>
  h H1 e1 _ fun p H2 np e2 hp => ⟨p, L, rfl, hp, few, short, fun N' od' q' H3 nq e3 hq => q q' H3 (fresh_back e2 nq) (e2.trans e3) (by rw [od.uniq od' fun _ => Iff.rfl]; exact hq)⟩
theorem due_few {M N : List Str} (od : Ord (M.map bare) N) (lit : ∀ z ∈ M, isLit z = true) : (due M N).length ≤ M.length :=
  perm_len_le (due_nodup od.nd fun n hn => by
    obtain ⟨y, hy, ey⟩ := List.mem_map.mp ((od.mem n).mp hn)
    rw [← ey]
    exact name_dash (lit_bare (lit y hy))) fun x hx => (due_mem od x).mp hx
theorem But.fr2 {a l : Addr} {ns : List Int} {H H' : Hp} {x : Addr} (B : But a H H') (S : SrcL H' a l ns) (h : H' x = none) : H x = none := by
  cases hx : H x with
  | none => rfl
  | some o =>
    have n := (srl_off S h).1
    rw [B x o n hx] at h; cases h
theorem bare_flip {z : Str} (h : isLit z = true) : bare (flip z) = bare z := by
  have nb : isName (bare z) = true := h
  cases d : dash z with
  | false => rw [flip_no d, bare_minus, bare_no d]
  | true => rw [flip_dash d, bare_no (name_dash nb)]
theorem el_mpN {σ : L2.St} {H : Hp} {L : List Str} {tl te : TE} {j : Nat} {vs : List Nat} (g : Str → Str) (h : EvL tl σ H (L.map V.str)) (hz : L.length ≤ 40000) (hw : ∀ x, wipe ((wipe σ vs).set j (some x)) vs = wipe σ vs) (he : ∀ z ∈ L, ∀ H1, Ev te ((wipe σ vs).set j (some (.str z))) H1 (.str (g z))) : EvL (tLc (iList K tl) (gName j) tYes te vs) σ H ((L.map g).map V.str) := fun H1 e1 Q q =>
  h H1 e1 _ fun p H2 np e2 hp => (el_mpS (K := K) (σ := σ) (tl := tC (.ref p)) (te := te) (j := j) (vs := vs) g ev_c hp hz hw fun z m H3 e3 => he z m H3) H2 (Ex.refl H2) Q fun r H3 nr e3 hr => q r H3 (fresh_back e2 nr) (e2.trans e3) hr
theorem few_wt {L : List Str} (few : L.length ≤ 7) (t : ∀ z ∈ L, Txt8 20 z) : Txt8 161 (Txt.join " | " L) := join_txt (Nat.le_trans (wt_le (k := 20) fun z m => (t z m).1) (by omega)) fun z m => (t z m).2
/-- _law_other_clause(source, row, names, style) -/
def spOClause : Sp := fun vs H Q _ => ∃ (a l : Addr) (ns : List Int) (r pn : Addr) (D nms : List Str) (st : Int), vs = [.ref a, .ref r, .ref pn, .int st] ∧ SrcL H a l ns ∧ H r = some (.lst (D.map V.str)) ∧ r ≠ a ∧ D.length ≤ 6 ∧ (∀ z ∈ D, isLit z = true) ∧ H pn = some (.lst (nms.map V.str)) ∧ pn ≠ a ∧ nms.length = 14 ∧ (∀ z ∈ nms, isName z = true) ∧
  ∀ (H' : Hp) (p : Addr) (L : List Str), H p = none → H' p = some (.lst (L.map V.str)) → L.length ≤ 7 → (∀ z ∈ L, Txt8 20 z) → SrcL H' a l ns → But a H H' → Q (.ref p) H'
theorem ok__law_other_clause (T : Txt P K mg) : FnOk P w K mg base CX0 13 T.f__law_other_clause T.d__law_other_clause ["_law_source_here", "_law_row_here", "_law_names_here", "_law_style"] spOClause := by
  refine T.F__law_other_clause.ok sc__law_other_clause (fun vs H Q E h => ?_) (fun cdv A outer s H vs Q E hr h => ?_)
  · obtain ⟨a, l, ns, r, pn, D, nms, st, rfl, _⟩ := h
    rfl
  · obtain ⟨a, l, ns, r, pn, D, nms, st, rfl, S, hr0, ra, d6, lit, hN, pna, c14, nm, q⟩ := h
    refine ⟨_, (pss_cons (ps_set (i := 4) sc__law_other_clause.nd rfl (.inl rfl) (pe_call (okL__law_take T) (hr.mono (by decide)) rfl T.g__law_take T.F__law_take.kp T.b__law_take .nil pass0 (pa_cons (pv 0) (pa_cons (pe_op op_add (pe_callB call_len_seq (by rfl) T.n_len PySem.boot_len (pa_cons (pv 1) pa_nil)) pe_int) pa_nil))))
      (pss_cons (ps_if (pt_cmpR op_eq (pv 3) pe_int (nomark _)) (pss_one (ps_ret (pe_op op_cat (pe_slice sl_list (pv 1) (po_some (pe_op op_add (pv 4) pe_int)) po_none) (pe_slice sl_list (pv 1) po_none (po_some (pe_op op_add (pv 4) pe_int)))))) pss_nil)
      (pss_cons (ps_if (pt_cmpR op_eq (pv 3) pe_int (nomark _)) (pss_one (ps_ret (pe_op op_cat (pe_op op_cat (pe_slice sl_list (pv 1) po_none (po_some (pv 4))) (pe_slice sl_list (pv 1) (po_some (pv 4)) (po_some (pe_op op_add (pv 4) pe_int)))) (pe_slice sl_list (pv 1) (po_some (pv 4)) po_none)))) pss_nil)
      (pss_cons (ps_if (pt_cmpR op_eq (pv 3) pe_int (nomark _)) (pss_one (ps_ret (pe_call (ok__law_ordered T) (hr.mono (by decide)) rfl T.g__law_ordered T.F__law_ordered.kp T.b__law_ordered .nil pass0 (pa_cons (pe_op op_cat (pv 1) (pe_lc (te := tCall (spPure fun z => .str (flip z)) [] E0 (tCons (tVar 5) tNil)) (own := [("_law_literal", 5)]) (g := gName 5) (by rfl) sc__law_other_clause.nd (pi_list (pe_slice sl_list (pv 1) (po_some (pv 4)) (po_some (pe_op op_add (pv 4) pe_int)))) (blkOk_by (own := [("_law_literal", 5)]) (N := N__law_other_clause) (sc := defScope s__law_other_clause) (by decide +kernel)) (fun _ _ _ _ _ => pg_name (i := 5) sc__law_other_clause.nd rfl (Or.inl rfl)) (fun _ _ _ _ _ => pts_nil) (fun _ _ _ _ _ => (pe_call (ok__law_flip T) (hr.mono (by decide)) rfl T.g__law_flip T.F__law_flip.kp T.b__law_flip .nil pass0 (pa_cons (pv 5) pa_nil))))) pa_nil)))) pss_nil)
      (pss_cons (ps_if (pt_cmpR op_eq (pv 3) pe_int (nomark _)) (pss_one (ps_ret (pe_op op_cat (pe_op op_cat (pe_slice sl_list (pv 1) po_none (po_some (pv 4))) (pe_lst (pa_cons (pe_call (ok__law_bad T) (hr.mono (by decide)) rfl T.g__law_bad T.F__law_bad.kp T.b__law_bad .nil pass0 (pa_cons (pv 0) (pa_cons (pe_ix ix_list (pv 2) pe_int (fun _ _ => rfl)) pa_nil))) pa_nil))) (pe_slice sl_list (pv 1) (po_some (pv 4)) po_none)))) pss_nil)
      (pss_one (ps_ret (pe_call (ok__law_ordered T) (hr.mono (by decide)) rfl T.g__law_ordered T.F__law_ordered.kp T.b__law_ordered .nil pass0 (pa_cons (pe_op op_cat (pe_slice sl_list (pv 1) po_none (po_some pe_int)) (pe_slice sl_list (pv 2) (po_some pe_int) (po_some (pe_op op_add pe_int (pe_call (okL__law_take T) (hr.mono (by decide)) rfl T.g__law_take T.F__law_take.kp T.b__law_take .nil pass0 (pa_cons (pv 0) (pa_cons pe_int pa_nil))))))) pa_nil))))))))), ?_⟩
    refine q_asgRaw ⟨.ref a, rfl, ?_⟩
    refine (ev_op (ev_is (ev_len (ev_var rfl) (sq_of hr0)) (by rw [List.length_map])) ev_c (fun H1 _ Q q => ⟨_, _, rfl, rfl, q H1 (Ex.refl H1)⟩)) H (Ex.refl H) _ fun H1 e1 => ⟨a, _, l, ns, rfl, srl_ex S e1, by omega, by omega, fun H2 p p0 p1 S2 C2 => ?_⟩
    dsimp only [gName]
    obtain ⟨p, rfl⟩ := Int.eq_ofNat_of_zero_le p0
    have B2 : But a H H2 := fun c o n h => C2 c o n (e1 _ _ h)
    have hr2 := B2 _ _ ra hr0
    have hN2 := B2 _ _ pna hN
    obtain ⟨M, eM, lM, mM⟩ := cut1 D p
    have t20 : ∀ {z : Str}, z ∈ D → Txt8 20 z := fun m => (lit_txt (lit _ m)).mono (by decide)
    have out : ∀ {D' : Ends} {te : TE} {L : List Str} {H3 : Hp} {σ : L2.St}, Ex H2 H3 → D'.rt = Q → EvL te σ H3 (L.map V.str) → L.length ≤ 7 → (∀ z ∈ L, Txt8 20 z) → tRet te D' σ H3 := fun {D' te L H3 σ} e3 hq h l7 t => by
      refine s_retL h fun q' H4 nq e4 hq' => ?_
      rw [hq]
      exact q H4 q' L (B2.fr2 (srl_ex S2 (Ex.refl _)) (fresh_back e3 nq)) hq' l7 t (srl_ex S2 (e3.trans e4)) fun c o n h => e4 _ _ (e3 _ _ (B2 c o n h))
    have add1 : ∀ {σ : L2.St} {H3 : Hp}, σ[4]? = some (some (V.int (p : Int))) → Ev (tOp (rI0 fun i j => .int (i + j)) (tVar 4) (tC (.int 1))) σ H3 (.int ((p + 1 : Nat) : Int)) := fun e => ev_op (ev_var e) ev_c (fun H1 _ Q q => ⟨_, _, rfl, rfl, q H1 (Ex.refl H1)⟩)
    refine q_when (b := decide (V.int st = V.int 9)) (et_is (et_test (ev_op (ev_var rfl) ev_c (rv_eq rfl))) rfl) (fun _ H3 e3 => ?_) (fun _ H3 e3 => ?_)
    · refine out (L := D.drop (p + 1) ++ D.take (p + 1)) e3 rfl ?_ (by rw [List.length_append, List.length_drop, List.length_take]; omega) (fun z hz => (List.mem_append.mp hz).elim (fun m => t20 (List.mem_of_mem_drop m)) fun m => t20 (List.mem_of_mem_take m))
      rw [List.map_append, List.map_drop, List.map_take]
      exact el_catL (el_drop (K := K) (k := p + 1) (ev_var rfl) (add1 rfl) (e3 _ _ hr2)) (el_take (K := K) (k := p + 1) (ev_var rfl) (add1 rfl) (e3 _ _ hr2)) (by rw [List.length_drop, List.length_take, List.length_map]; omega)
    refine q_when (b := decide (V.int st = V.int 10)) (et_is (et_test (ev_op (ev_var rfl) ev_c (rv_eq rfl))) rfl) (fun _ H4 e4 => ?_) (fun _ H4 e4 => ?_)
    · have e34 := e3.trans e4
      refine out (L := D.take p ++ M ++ D.drop p) e34 rfl ?_ (by rw [List.length_append, List.length_append, List.length_drop, List.length_take]; omega) (fun z hz => (List.mem_append.mp hz).elim (fun m => (List.mem_append.mp m).elim (fun m => t20 (List.mem_of_mem_take m)) fun m => t20 (mM z m)) fun m => t20 (List.mem_of_mem_drop m))
      rw [List.map_append, List.map_append, List.map_drop, List.map_take]
      exact el_catL (el_catL (el_take (K := K) (k := p) (ev_var rfl) (ev_var rfl) (e34 _ _ hr2)) (el_cut1 (ev_var rfl) (e34 _ _ hr2) (ev_var rfl) (add1 rfl) eM) (by rw [List.length_take, List.length_map, List.length_map]; omega)) (el_drop (K := K) (k := p) (ev_var rfl) (ev_var rfl) (e34 _ _ hr2)) (by rw [List.length_append, List.length_take, List.length_drop, List.length_map, List.length_map]; omega)
    have e34 := e3.trans e4
    refine q_when (b := decide (V.int st = V.int 11)) (et_is (et_test (ev_op (ev_var rfl) ev_c (rv_eq rfl))) rfl) (fun _ H5 e5 => ?_) (fun _ H5 e5 => ?_)
    · have e35 := e34.trans e5
      obtain ⟨N, od⟩ := ord_any ((D ++ M.map flip).map bare)
      have litL : ∀ z ∈ D ++ M.map flip, isLit z = true := fun z hz => (List.mem_append.mp hz).elim (fun m => lit z m) fun m => by
        obtain ⟨y, hy, rfl⟩ := List.mem_map.mp m
        show isName (bare (flip y)) = true
        rw [bare_flip (lit y (mM y hy))]
        exact lit y (mM y hy)
      have lenL : (D ++ M.map flip).length ≤ 7 := by rw [List.length_append, List.length_map]; omega
      refine out (L := due (D ++ M.map flip) N) e35 rfl (el_ordL ?_ (by omega) (fun z hz => Nat.le_trans (lit_txt (litL z hz)).1 (by decide)) od) (Nat.le_trans (due_few od litL) lenL) fun z hz => (lit_txt (litL z ((due_mem od z).mp hz))).mono (by decide)
      rw [List.map_append]
      exact el_cat (els_at (ev_var rfl) (e35 _ _ hr2)) (els_new (el_mpN (K := K) flip (el_cut1 (ev_var rfl) (e35 _ _ hr2) (ev_var rfl) (add1 rfl) eM) (by omega) (fun _ => rfl) fun z m H6 => ev_call (ea_cons (ev_var rfl) ea_nil) fun H7 e7 Q q E => ⟨z, rfl, Nat.le_trans (lit_txt (lit z (mM z m))).1 (by decide), q⟩)) (by rw [List.length_map, List.length_map, List.length_map]; omega)
    have e35 := e34.trans e5
    refine q_when (b := decide (V.int st = V.int 12)) (et_is (et_test (ev_op (ev_var rfl) ev_c (rv_eq rfl))) rfl) (fun _ H6 e6 => ?_) (fun _ H6 e6 => ?_)
    · have e36 := e35.trans e6
      have S6 := srl_ex S2 e36
      refine (el_take (K := K) (k := p) (ev_var rfl) (ev_var rfl) (e36 _ _ hr2)) H6 (Ex.refl H6) _ fun p1 H7 n1 e7 h7 => ?_
      have e37 := e36.trans e7
      refine ⟨.ref a, rfl, ?_⟩
      have n0 : 0 < nms.length := by omega
      refine (ev_op (ev_var rfl) ev_c (rv_ixL (sq_of (e37 _ _ hN2)) (atI_nat (j := 0) (v := .str nms[0]) (by rw [List.getElem?_map, List.getElem?_eq_getElem n0]; rfl)))) H7 (Ex.refl H7) _ fun H8 e8 => ⟨a, l, ns, nms[0], rfl, srl_ex S2 (e37.trans e8), nm _ (List.getElem_mem n0), fun H9 y ny ty S9 C9 => ⟨(by show 1 ≤ sizeLine; decide), fun p2 n2 => ?_⟩⟩
      have p1a := (srl_off S6 n1).1
      have h9 : H9 p1 = some (.lst ((D.map V.str).take p)) := C9 _ _ p1a (e8 _ _ h7)
      have hr9 : H9 r = some (.lst (D.map V.str)) := C9 _ _ ra (e8 _ _ (e37 _ _ hr2))
      have B9 : But a H H9 := fun c o n h => C9 c o n (e8 _ _ (e37 _ _ (B2 c o n h)))
      have ep : Ex H9 (upd H9 p2 (.lst [.str y])) := Ex.new n2
      refine ⟨p1, p2, _, [.str y], rfl, rfl, ep _ _ h9, upd_same, sz_of (by rw [List.length_take, List.length_map]; simp only [List.length_cons, List.length_nil]; omega), fun p3 n3 => ?_⟩
      have e10 := ep.trans (Ex.new (o := .lst ((D.map V.str).take p ++ [.str y])) n3)
      have h10 : (upd (upd H9 p2 (.lst [.str y])) p3 (.lst ((D.map V.str).take p ++ [.str y]))) p3 = some (.lst ((D.map V.str).take p ++ [.str y])) := upd_same
      generalize upd (upd H9 p2 (.lst [.str y])) p3 (.lst ((D.map V.str).take p ++ [.str y])) = H10 at e10 h10
      refine (el_drop (K := K) (k := p) (ev_var rfl) (ev_var rfl) (e10 _ _ hr9)) H10 (Ex.refl H10) _ fun p4 H11 n4 e11 h11 => ?_
      refine ⟨p3, p4, _, _, rfl, rfl, e11 _ _ h10, h11, sz_of (by rw [List.length_append, List.length_take, List.length_drop, List.length_map]; simp only [List.length_cons, List.length_nil]; omega), fun p5 n5 => ?_⟩
      have e911 := e10.trans e11
      have n50 : H9 p5 = none := fresh_back e911 n5
      refine q _ p5 (D.take p ++ [y] ++ D.drop p) (B9.fr2 S9 n50) (by rw [upd_same, List.map_append, List.map_append, List.map_take, List.map_drop]; rfl) (by rw [List.length_append, List.length_append, List.length_take, List.length_drop]; simp only [List.length_cons, List.length_nil]; omega) (fun z hz => ?_) (srl_ex S9 (e911.trans (Ex.new n5))) fun c o n h => (e911.trans (Ex.new n5)) _ _ (B9 c o n h)
      rcases List.mem_append.mp hz with m | m
      · rcases List.mem_append.mp m with m | m
        · exact t20 (List.mem_of_mem_take m)
        · rw [List.mem_singleton.mp m]; exact ty
      · exact t20 (List.mem_of_mem_drop m)
    have e36 := e35.trans e6
    have S6 := srl_ex S2 e36
    refine (el_take (K := K) (k := 1) (ev_var rfl) ev_c (e36 _ _ hr2)) H6 (Ex.refl H6) _ fun p1 H7 n1 e7 h7 => ?_
    have e37 := e36.trans e7
    refine ⟨_, rfl, to_part ⟨12, rfl, to_part ⟨.ref a, rfl, a, 2, l, ns, rfl, srl_ex S2 e37, by decide, by decide, fun H8 k k0 k1 S8 C8 => ⟨_, _, rfl, rfl, _, rfl, ?_⟩⟩⟩⟩
    have p1a := (srl_off S6 n1).1
    have h8 : H8 p1 = some (.lst ((D.map V.str).take 1)) := C8 _ _ p1a h7
    have hN8 : H8 pn = some (.lst (nms.map V.str)) := C8 _ _ pna (e37 _ _ hN2)
    have B8 : But a H H8 := fun c o n h => C8 c o n (e37 _ _ (B2 c o n h))
    obtain ⟨k, rfl⟩ := Int.eq_ofNat_of_zero_le k0
    obtain ⟨X, eX, lX, mX⟩ := cut2 nms k (by omega)
    refine ⟨pn, _, rfl, sq_of hN8, fun p2 n2 => ?_⟩
    rw [eX]
    have ep : Ex H8 (upd H8 p2 (.lst (X.map V.str))) := Ex.new n2
    refine ⟨p1, p2, _, _, rfl, rfl, ep _ _ h8, upd_same, sz_of (by rw [List.length_take, List.length_map, List.length_map]; omega), fun p3 n3 => ?_⟩
    have e10 := ep.trans (Ex.new (o := .lst ((D.map V.str).take 1 ++ X.map V.str)) n3)
    have h10 : (upd (upd H8 p2 (.lst (X.map V.str))) p3 (.lst ((D.map V.str).take 1 ++ X.map V.str))) p3 = some (.lst ((D.take 1 ++ X).map V.str)) := by rw [upd_same, List.map_append, List.map_take]
    generalize upd (upd H8 p2 (.lst (X.map V.str))) p3 (.lst ((D.map V.str).take 1 ++ X.map V.str)) = H10 at e10 h10
    obtain ⟨N, od⟩ := ord_any ((D.take 1 ++ X).map bare)
    have litL : ∀ z ∈ D.take 1 ++ X, isLit z = true := fun z hz => (List.mem_append.mp hz).elim (fun m => lit z (List.mem_of_mem_take m)) fun m => name_lit (nm z (mX z m))
    have lenL : (D.take 1 ++ X).length ≤ 7 := by rw [List.length_append, List.length_take]; omega
    refine ⟨p3, D.take 1 ++ X, rfl, h10, by omega, fun z hz => Nat.le_trans (lit_txt (litL z hz)).1 (by decide), fun N' od' q' H11 nq e11 hq => ?_⟩
    rw [od'.uniq od fun _ => Iff.rfl] at hq
    have e811 := e10.trans e11
    exact q H11 q' (due (D.take 1 ++ X) N) (B8.fr2 S8 (fresh_back e10 nq)) hq (Nat.le_trans (due_few od litL) lenL) (fun z hz => (lit_txt (litL z ((due_mem od z).mp hz))).mono (by decide)) (srl_ex S8 e811) fun c o n h => e811 _ _ (B8 c o n h)
end
open PySem PySem.Spec PyProof.Rows L2 in
theorem pet_ix {X : Cx} {a b : Expr} {ta tb : TE} {r : R2} {pos : Pos} (hr : IxR X r) (ha : PET X a ta) (hb : PE X b tb) (hs : PlainIx b) : PET X (.Subscript a b pos) (tOp r ta tb) := by
  intro pins s σ H Q h0 I h
  refine Subscript_ (thn (ha pins s σ H _ h0 I h) fun v s1 ⟨x, H1, I1, r1, q1⟩ => thn (hb.run pins s1 σ H1 _ I1 q1) fun u s2 ⟨y, H2, I2, r2, q2⟩ => ?_)
  exact hr a b pins s2 σ H2 x y v u Q I2 r1 r2 q2 (hs _ _)
section
open Evl
theorem len_repl1 {y z : List Nat} (hy : y.length = 1) (hz : z.length ≤ 2) : ∀ (n : Nat) (l : List Nat), l.length ≤ n → (StrLaws.replL y z l).length ≤ 2 * l.length
  | _, [], _ => by rw [StrLaws.replL_nil]; exact Nat.zero_le _
  | 0, d :: r, hl => by simp at hl
  | n + 1, d :: r, hl => by
    have hl2 : r.length ≤ n := by simpa using hl
    by_cases m : (d :: r).take y.length = y
    · rw [StrLaws.replL_hit (fun e => by rw [e] at hy; simp at hy) m, hy]
      have ih := len_repl1 hy hz n ((d :: r).drop 1) (by simpa using hl2)
      have e : ((d :: r).drop 1).length = r.length := by simp
      rw [e] at ih
      rw [List.length_append, List.length_cons]
      omega
    · rw [StrLaws.replL_miss m, List.length_cons, List.length_cons]
      have ih := len_repl1 hy hz n r hl2
      omega
theorem mem_repl {y z : List Nat} (hy : 0 < y.length) : ∀ (n : Nat) (l : List Nat), l.length ≤ n → ∀ c ∈ StrLaws.replL y z l, c ∈ z ∨ c ∈ l
  | _, [], _, c, h => by rw [StrLaws.replL_nil] at h; cases h
  | 0, d :: r, hl, _, _ => by simp at hl
  | n + 1, d :: r, hl, c, h => by
    have hl2 : r.length ≤ n := by simpa using hl
    by_cases m : (d :: r).take y.length = y
    · rw [StrLaws.replL_hit (fun e => by rw [e] at hy; simp at hy) m] at h
      rcases List.mem_append.mp h with h | h
      · exact .inl h
      · rcases mem_repl hy n ((d :: r).drop y.length) (by rw [List.length_drop, List.length_cons]; omega) c h with h | h
        · exact .inl h
        · exact .inr (List.mem_of_mem_drop h)
    · rw [StrLaws.replL_miss m] at h
      rcases List.mem_cons.mp h with h | h
      · exact .inr (h ▸ List.mem_cons_self)
      · rcases mem_repl hy n r hl2 c h with h | h
        · exact .inl h
        · exact .inr (List.mem_cons_of_mem _ h)
theorem len_replL {y z : List Nat} (hy : y.length = 3) (hz : z.length ≤ 4) : ∀ (n : Nat) (l : List Nat), l.length ≤ n → 3 * (StrLaws.replL y z l).length ≤ 4 * l.length
  | _, [], _ => by rw [StrLaws.replL_nil]; simp
  | 0, c :: r, h => by simp at h
  | n + 1, c :: r, h => by
    have hl : r.length ≤ n := by simpa using h
    by_cases m : (c :: r).take y.length = y
    · rw [StrLaws.replL_hit (fun e => by rw [e] at hy; simp at hy) m, List.length_append]
      have l3 : 3 ≤ (c :: r).length := by
        have q := congrArg List.length m
        rw [List.length_take] at q
        omega
      have ih := len_replL hy hz n ((c :: r).drop y.length) (by rw [List.length_drop, List.length_cons]; omega)
      rw [List.length_drop] at ih
      omega
    · rw [StrLaws.replL_miss m]
      have ih := len_replL hy hz n r hl
      simp only [List.length_cons]
      omega
theorem repl_nl {x y z : Str} {n k : Nat} (t : Nl n x) (ye : (y.length == 0) = false) (tz : Nl k z) (len : (StrLaws.replL y.cps.toList z.cps.toList x.cps.toList).length ≤ 2 * n) : Nl (2 * n) (Txt.replace x y z) := by
  have y0 : 0 < y.cps.toList.length := by
    have l : y.cps.toList.length = y.cps.size := Array.length_toList
    have e : y.length ≠ 0 := by simpa using ye
    have e2 : y.length = y.cps.size := rfl
    omega
  have e := StrLaws.replace_list (x := x) (y := y) (z := z) (by
    have l : y.cps.toList.length = y.cps.size := Array.length_toList
    show 1 ≤ y.cps.size
    omega)
  have l1 : (Txt.replace x y z).cps.toList.length = (Txt.replace x y z).cps.size := Array.length_toList
  rw [← e] at len
  refine ⟨⟨by omega, fun c hc => ?_⟩, fun m => ?_⟩
  · rw [e] at hc
    rcases mem_repl y0 _ _ (Nat.le_refl _) c hc with h | h
    · exact tz.1.2 c h
    · exact t.1.2 c h
  · rw [e] at m
    rcases mem_repl y0 _ _ (Nat.le_refl _) 10 m with h | h
    · exact tz.2 h
    · exact t.2 h
theorem ev_ixN {σ : L2.St} {H : Hp} {te ti : TE} {xs : List V} {i : Int} {v : V} (h : EvL te σ H xs) (hi : Ev ti σ H (.int i)) (ha : atI xs i = some v) : Ev (tOp (rIxL K) te ti) σ H v := fun H1 e1 Q q =>
  h H1 e1 _ fun p H2 np e2 hp => hi H2 (e1.trans e2) _ fun H3 e3 => rv_ixL (sq_of (e3 _ _ hp)) ha H3 (Ex.refl H3) _ fun H4 e4 => q H4 ((e2.trans e3).trans e4)
theorem rv_addN {H : Hp} {x y : Str} (h : x.length + y.length ≤ 3000) : RV (fun x y H Q => ∃ i j, x = .str i ∧ y = .str j ∧ i.length + j.length ≤ sizeLine ∧ Q (.str (i ++ j)) H) (.str x) (.str y) H (.str (x ++ y)) := fun H1 _ Q q => ⟨x, y, rfl, rfl, (by rw [sizeLine_eq]; omega), q H1 (Ex.refl H1)⟩
theorem ev_toS {σ : L2.St} {H : Hp} {te : TE} {i : Int} (h : Ev te σ H (.int i)) (hs : i.natAbs.log2 < 1920) : Ev (tCB (fun xs H Q => ∃ i : Int, xs = [.int i] ∧ i.natAbs.log2 < 1920 ∧ Q (.str (Str.ofString (toString i))) H) (tCons te tNil)) σ H (.str (toString i : Str)) :=
  ev_cb (ea_cons h ea_nil) fun H1 _ Q q => ⟨i, rfl, hs, q H1 (Ex.refl H1)⟩
theorem atS {L : List Str} {i : Int} (h0 : 0 ≤ i) (h1 : i < (L.length : Int)) : ∃ w, w ∈ L ∧ atI (L.map V.str) i = some (.str w) := by
  obtain ⟨k, rfl⟩ := Int.eq_ofNat_of_zero_le h0
  have hk : k < L.length := by omega
  exact ⟨L[k], List.getElem_mem hk, atI_nat (by rw [List.getElem?_map, List.getElem?_eq_getElem hk]; rfl)⟩
theorem ev_repl {σ : L2.St} {H : Hp} {te : TE} {x y z : Str} (h : Ev te σ H (.str x)) (hx : x.length ≤ 1000) (hz : z.length ≤ 10) : Ev (CwR.tReplC te y z) σ H (.str (Txt.replace x y z)) := fun H1 e1 Q q =>
  h H1 e1 _ fun H2 e2 => ⟨x, rfl, (by
    have b : (x.length + 1) * z.length ≤ 1001 * 10 := Nat.mul_le_mul (by omega) hz
    omega), q H2 e2⟩
theorem itx_of {k : Int} (h0 : 0 ≤ k) (h1 : k < 10000) : k.natAbs.log2 < 1920 := by
  by_cases h : k.natAbs = 0
  · rw [h]; decide
  · exact (Nat.log2_lt h).mpr (Nat.lt_of_lt_of_le (show k.natAbs < 2 ^ 14 by omega) (Nat.pow_le_pow_right (by decide) (by decide)))
theorem at5 {xs : List Int} {c : Int} (h0 : 0 ≤ c) (h1 : c < (xs.length : Int)) : ∃ w, w ∈ xs ∧ atI (xs.map V.int) c = some (.int w) := by
  obtain ⟨k, rfl⟩ := Int.eq_ofNat_of_zero_le h0
  have hk : k < xs.length := by omega
  exact ⟨xs[k], List.getElem_mem hk, atI_nat (by rw [List.getElem?_map, List.getElem?_eq_getElem hk]; rfl)⟩
/-- _law_other_line(source, number, before, rest, style) -/
def spOLine : Sp := fun vs H Q _ => ∃ (a l : Addr) (ns : List Int) (n bf st : Int) (rest : Str), vs = [.ref a, .int n, .int bf, .str rest, .int st] ∧ 0 ≤ n ∧ n < 10000 ∧ 0 ≤ bf ∧ bf < 10000 ∧ Nl 90 rest ∧ SrcL H a l ns ∧ ∀ H' z, Nl 200 z → SrcL H' a l ns → But a H H' → Q (.str z) H'
theorem ok__law_other_line (T : Txt P K mg) : FnOk P w K mg base CX0 2 T.f__law_other_line T.d__law_other_line ["_law_source_here", "_law_number", "_law_before", "_law_rest", "_law_style"] spOLine := by
  refine T.F__law_other_line.ok sc__law_other_line (fun vs H Q E h => ?_) (fun cdv A outer s H vs Q E hr h => ?_)
  · obtain ⟨a, l, ns, n, bf, st, rest, rfl, _⟩ := h
    rfl
  · obtain ⟨a, l, ns, n, bf, st, rest, rfl, n0, n1, b0, b1, nr, S, q⟩ := h
    refine ⟨_, (pss_setT (i := 5) sc__law_other_line.nd rfl rfl (pe_call (okL__law_take T) (hr.mono (by decide)) rfl T.g__law_take T.F__law_take.kp T.b__law_take .nil pass0 (pa_cons (pv 0) (pa_cons pe_int pa_nil)))
      (psst_cons (CwR.pst_if (pt_cmpR op_eq (pv 4) pe_int (nomark _)) (PSsT.of (pss_one (ps_ret (pe_op op_add_str (pe_op op_add_str (pe_ix ix_list (pe_lst (pa_cons pe_str (pa_cons pe_str (pa_cons pe_str (pa_cons pe_str (pa_cons pe_str pa_nil)))))) (pv 5) (fun _ _ => rfl)) (pe_callTy call_str_int (by rfl) T.n_str (by decide +kernel) (pa_cons (pv 1) pa_nil))) (pv 3))))) CwR.psst_nil)
      (psst_cons (CwR.pst_if (pt_cmpR op_eq (pv 4) pe_int (nomark _)) (PSsT.of (pss_one (ps_ret (pe_op op_add_str (pe_callTy call_str_int (by rfl) T.n_str (by decide +kernel) (pa_cons (pe_ix ix_list (pe_lst (pa_cons pe_int (pa_cons pe_int (pa_cons pe_int (pa_cons (pv 2) (pa_cons pe_int pa_nil)))))) (pv 5) (fun _ _ => rfl)) pa_nil)) (pv 3))))) CwR.psst_nil)
      (psst_cons (PST.of (ps_set (i := 6) sc__law_other_line.nd rfl (.inl rfl) (pe_op op_add_str (pe_callTy call_str_int (by rfl) T.n_str (by decide +kernel) (pa_cons (pv 1) pa_nil)) (pv 3))))
      (CwR.psst_one (CwR.pst_ret (pet_ix ix_list (pet_lst (pat_cons (CwR.PET.of (pe_op op_add_str (pv 6) pe_str)) (pat_cons (CwR.pet_replC (pv 6)) (pat_cons (CwR.pet_replC (pv 6)) (pat_cons (CwR.PET.of (pe_slice sl_str (pv 3) (po_some pe_int) po_none)) (pat_cons (CwR.PET.of (pe_callTy call_str_int (by rfl) T.n_str (by decide +kernel) (pa_cons (pv 1) pa_nil))) pat_nil)))))) (pv 5) (fun _ _ => rfl)))))))), ?_⟩

    have nn := num_nl n0 n1
    have lr : rest.length ≤ 90 := nr.1.1
    have ln4 : (toString n : Str).length ≤ 4 := nn.1.1
    refine ⟨.ref a, rfl, a, 5, l, ns, rfl, S, by decide, by decide, fun H1 c c0 c1 S1 B1 => ?_⟩
    dsimp only [gName]
    have fin : ∀ {D' : Ends} {te : TE} {y : Str} {H3 : Hp} {σ : L2.St}, Ex H1 H3 → D'.rt = Q → Ev te σ H3 (.str y) → Nl 200 y → tRet te D' σ H3 := fun {D' te y H3 σ} e3 hq h ny => by
      refine s_ret h fun H4 e4 => ?_
      rw [hq]
      exact q H4 y ny (srl_ex S1 (e3.trans e4)) fun c o n h => e4 _ _ (e3 _ _ (B1 c o n h))
    refine q_when (b := decide (V.int st = V.int 4)) (et_is (et_test (ev_op (ev_var rfl) ev_c (rv_eq rfl))) rfl) (fun _ H2 e2 => ?_) (fun _ H2 e2 => ?_)
    · obtain ⟨w, hw, aw⟩ := atS (L := ["0", "+", "-", "00", " "]) c0 c1
      have nw : Nl 2 w := by
        simp only [List.mem_cons, List.not_mem_nil, or_false] at hw
        rcases hw with rfl | rfl | rfl | rfl | rfl <;> exact ⟨⟨by decide, by decide⟩, by decide⟩
      have lw : w.length ≤ 2 := nw.1.1
      have lwn : (w ++ (toString n : Str)).length ≤ 2 + 4 := app_le lw ln4
      exact fin e2 rfl (ev_op (ev_op (ev_ixN (K := K) (xs := (["0", "+", "-", "00", " "] : List Str).map V.str) (el_lst (ea_cons ev_c (ea_cons ev_c (ea_cons ev_c (ea_cons ev_c (ea_cons ev_c ea_nil))))) (by decide)) (ev_var rfl) aw) (ev_toS (ev_var rfl) (itx_of n0 n1)) (rv_addN (by omega))) (ev_var rfl) (rv_addN (by omega))) (((nw.app nn).app nr).mono (by decide))
    refine q_when (b := decide (V.int st = V.int 5)) (et_is (et_test (ev_op (ev_var rfl) ev_c (rv_eq rfl))) rfl) (fun _ H3 e3 => ?_) (fun _ H3 e3 => ?_)
    · obtain ⟨w, hw, aw⟩ := at5 (xs := [0, 1000, 1234, bf, 999]) c0 c1
      have rw0 : 0 ≤ w ∧ w < 10000 := by
        simp only [List.mem_cons, List.not_mem_nil, or_false] at hw
        rcases hw with rfl | rfl | rfl | rfl | rfl <;> omega
      have nw := num_nl rw0.1 rw0.2
      have lw : (toString w : Str).length ≤ 4 := nw.1.1
      exact fin (e2.trans e3) rfl (ev_op (ev_toS (ev_ixN (K := K) (xs := ([0, 1000, 1234, bf, 999] : List Int).map V.int) (el_lst (ea_cons ev_c (ea_cons ev_c (ea_cons ev_c (ea_cons (ev_var rfl) (ea_cons ev_c ea_nil))))) (by show 5 ≤ 100000; omega)) (ev_var rfl) aw) (itx_of rw0.1 rw0.2)) (ev_var rfl) (rv_addN (by omega))) ((nw.app nr).mono (by decide))
    have e23 := e2.trans e3
    refine q_asg (v := .str ((toString n : Str) ++ rest)) (ev_op (ev_toS (ev_var rfl) (itx_of n0 n1)) (ev_var rfl) (rv_addN (by omega))) fun H4 e4 => ?_
    have nl := nn.app nr
    have ll : ((toString n : Str) ++ rest).length ≤ 4 + 90 := app_le ln4 lr
    generalize ((toString n : Str) ++ rest) = lin at nl ll ⊢
    have lc : lin.cps.toList.length = lin.cps.size := Array.length_toList
    have lc2 : lin.length = lin.cps.size := rfl
    have lsp : lin.length + (" " : Str).length ≤ 3000 := by
      have : (" " : Str).length = 1 := by decide
      omega
    have sp1 : Nl 1 " " := ⟨⟨by decide, by decide⟩, by decide⟩
    have sp2 : Nl 2 "  " := ⟨⟨by decide, by decide⟩, by decide⟩
    have br1 : Nl 1 "|" := ⟨⟨by decide, by decide⟩, by decide⟩
    have r1 := repl_nl (y := " ") nl rfl sp2 (Nat.le_trans (len_repl1 (by decide) (by decide) _ _ (Nat.le_refl _)) (by omega))
    have r2 := repl_nl (y := " | ") nl rfl br1 (by
      have h := len_replL (y := (" | " : Str).cps.toList) (z := ("|" : Str).cps.toList) (by decide) (by decide) _ lin.cps.toList (Nat.le_refl _)
      omega)
    have e24 := e23.trans e4
    have cutR : Ev (tSl rSlS (tVar 3) (tPart (tC (.int 1))) tNoPart) [some (V.ref a), some (.int n), some (.int bf), some (.str rest), some (.int st), some (.int c), some (.str lin)] H4 (.str (cutS rest (some 1) none)) := fun H5 e5 Q q => ⟨_, rfl, 1, rfl, rest, rfl, line_of (by omega), q H5 (Ex.refl H5)⟩
    obtain ⟨w, hw, aw⟩ := atS (L := [lin ++ " ", Txt.replace lin " " "  ", Txt.replace lin " | " "|", cutS rest (some 1) none, (toString n : Str)]) c0 c1
    have nw : Nl 200 w := by
      simp only [List.mem_cons, List.not_mem_nil, or_false] at hw
      rcases hw with rfl | rfl | rfl | rfl | rfl
      · exact (nl.app sp1).mono (by decide)
      · exact r1.mono (by decide)
      · exact r2.mono (by decide)
      · exact (nr.cut _ _).mono (by decide)
      · exact nn.mono (by decide)
    exact fin e24 rfl (ev_ixN (K := K) (xs := ([lin ++ " ", Txt.replace lin " " "  ", Txt.replace lin " | " "|", cutS rest (some 1) none, (toString n : Str)] : List Str).map V.str) (el_lst (ea_cons (ev_op (ev_var rfl) ev_c (rv_addN lsp)) (ea_cons (ev_repl (ev_var rfl) (by omega) (by decide)) (ea_cons (ev_repl (ev_var rfl) (by omega) (by decide)) (ea_cons cutR (ea_cons (ev_toS (ev_var rfl) (itx_of n0 n1)) ea_nil))))) (by show 5 ≤ 100000; omega)) (ev_var rfl) aw) nw
end
section
open Evl
theorem ok__law_lines (T : Txt P K mg) : FnOk P w K mg base CX0 12 T.f__law_lines T.d__law_lines ["_law_numbers_here", "_law_rows"] spLawLines := by
  refine T.F__law_lines.ok sc__law_lines (fun vs H Q E h => ?_) (fun cdv A outer s H vs Q E hr h => ?_)
  · obtain ⟨ln, lr, es, last, rfl, _⟩ := h
    rfl
  · obtain ⟨ln, lr, es, last, rfl, tab, o, q⟩ := h
    refine ⟨_, (pss_cons (ps_set (i := 2) sc__law_lines.nd rfl (.inl rfl) (pe_lst pa_nil))
      (pss_cons (ps_for PassesOwn.never rfl (pi_range1 rfl T.n_range (pa_cons (pe_callB call_len_seq (by rfl) T.n_len PySem.boot_len (pa_cons (pv 1) pa_nil)) pa_nil)) (pg_name (i := 3) sc__law_lines.nd rfl (.inl rfl)) (pss_cons (ps_set (i := 4) sc__law_lines.nd rfl (.inl rfl) (pe_bm PySem.F.plainAttrs_str PySem.F.slot_str_join PySem.F.type_str_join mt_join pe_str (pa_cons (pe_call (ok__law_ordered T) (hr.mono (by decide)) rfl T.g__law_ordered T.F__law_ordered.kp T.b__law_ordered .nil pass0 (pa_cons (pe_ix ix_list (pv 1) (pv 3) (fun _ _ => rfl)) pa_nil)) pa_nil)))
      (Evl.pss_cut (ps_if (pt_cmpR op_eq (pe_callB call_len_seq (by rfl) T.n_len PySem.boot_len (pa_cons (pe_ix ix_list (pv 1) (pv 3) (fun _ _ => rfl)) pa_nil)) pe_int (nomark _)) (pss_one (ps_set (i := 4) sc__law_lines.nd rfl (.inl rfl) pe_str)) pss_nil)
      (pss_one (ps_expr (pe_bm PySem.F.plainAttrs_list PySem.F.slot_list_append PySem.F.type_list_append mt_append (pv 2) (pa_cons (pe_op op_add_str (pe_op op_add_str (pe_callTy call_str_int (by rfl) T.n_str (by decide +kernel) (pa_cons (pe_ix ix_list (pv 0) (pv 3) (fun _ _ => rfl)) pa_nil)) pe_str) (pv 4)) pa_nil)))))))
      (pss_one (ps_ret (pv 2))))), ?_⟩
    have few := o.few
    refine q_asgL (xs := []) (el_lst ea_nil (by decide)) fun p H1 np e1 hp => ?_
    have lr1 : (es.map fun e => V.ref e.ra).length = es.length := List.length_map _
    refine q_forR1 (n := (es.length : Int)) (j := 3) (ea_cons (ev_is (ev_len (ev_var rfl) (sq_of (e1 _ _ tab.rows))) (by rw [lr1])) ea_nil) (by omega) (fun i σ H' => ∃ v3 v4 : Option V, σ = [some (V.ref ln), some (.ref lr), some (.ref p), v3, v4] ∧ Ex H H' ∧ H' p = some (.lst (((es.take i).map lineE).map V.str)))
      (fun H4 e4 => ⟨_, _, rfl, e1.trans e4, e4 _ _ hp⟩) ?_ ?_
    · rintro i σ H2 hi ⟨v3, v4, rfl, e2, hp2⟩
      have lt : i < es.length := by omega
      have me := List.getElem_mem lt
      obtain ⟨e, he⟩ : ∃ e, es[i] = e := ⟨_, rfl⟩
      rw [he] at me
      have gr : (es.map fun e => V.ref e.ra)[i]? = some (.ref e.ra) := by rw [List.getElem?_map, List.getElem?_eq_getElem lt, he]; rfl
      have gn : ((es.map Rc.n).map V.int)[i]? = some (.int e.n) := by rw [List.map_map, List.getElem?_map, List.getElem?_eq_getElem lt, he]; rfl
      obtain ⟨row, N, od, eD⟩ := o.row e me
      have ok := (o.row e me).litsOk
      have tx := o.txt me
      have t2 := tab.mono e2
      have evr : ∀ {v4 : Option V} {H3 : Hp}, Ex H2 H3 → Ev (tOp (rIxL K) (tVar 1) (tVar 3)) [some (V.ref ln), some (.ref lr), some (.ref p), some (.int (i : Int)), v4] H3 (.ref e.ra) := fun e3 => ev_op (ev_var rfl) (ev_var rfl) (rv_ixL (sq_of (e3 _ _ t2.rows)) (atI_nat (j := i) gr))
      refine q_asg (v := .str (Txt.join " | " e.D)) (ev_joinN (L := e.D) (el_call (ea_cons (evr (Ex.refl _)) ea_nil) fun H3 e3 Q q E => ⟨e.ra, e.R, rfl, e3 _ _ (t2.each e me), Nat.le_trans row.few (by decide), fun z hz => Nat.le_trans (row.txt z hz).1 (by decide), fun N' od' => by
        rw [od'.uniq od fun _ => Iff.rfl, ← eD]
        exact q⟩) (Nat.le_trans ok.1 (by decide)) (fun z hz => Nat.le_trans (ok.2 z hz).2.1 (by decide)) (by decide)) fun H3 e3 => ?_
      refine ⟨fun σ' H' => σ' = [some (V.ref ln), some (.ref lr), some (.ref p), some (.int (i : Int)), some (.str (ctext e.D))] ∧ Ex H2 H', ?_, ?_⟩
      · have lRD := rowLen (o.row e me)
        refine s_when (b := decide (e.R.length = 0)) (et_is (et_test (ev_op (ev_len (evr e3) (sq_of (e3 _ _ (t2.each e me)))) ev_c (rv_eq rfl))) (decide_eq_decide.mpr ⟨fun h => by have h := V.int.inj h; rw [List.length_map] at h; omega, fun h => by rw [List.length_map, h]; rfl⟩)) (fun c H4 e4 => ?_) (fun c H4 e4 => ⟨?_, e3.trans e4⟩)
        · have z : e.D = [] := List.length_eq_zero_iff.mp (by rw [lRD]; exact of_decide_eq_true c)
          refine s_asg (v := .str "0") ev_c fun H5 e5 => ⟨?_, (e3.trans e4).trans e5⟩
          rw [z]
          rfl
        · have z : e.D ≠ [] := fun h => of_decide_eq_false c (by rw [← lRD, h]; rfl)
          have h : ctext e.D = Txt.join " | " e.D := by
            unfold ctext
            cases hD : e.D with
            | nil => exact absurd hD z
            | cons a b => rfl
          rw [h]
          rfl
      · rintro σ' H4 ⟨rfl, e4⟩
        have lc : (ctext e.D).length ≤ 276 := row_wt ok.1 fun z hz => (ok.2 z hz).2.1
        have l1 : (toString e.n : Str).length ≤ 1000 := tx.ln
        have a2 : ((toString e.n : Str) ++ " ").length ≤ 1000 + 1 := app_le l1 (by decide)
        have l1b : (toString e.n : Str).length + (" " : Str).length ≤ 3000 := by
          have : (" " : Str).length = 1 := by decide
          omega
        have l2b : ((toString e.n : Str) ++ " ").length + (ctext e.D).length ≤ 3000 := by omega
        have w0 : Ev (tOp (rIxL K) (tVar 0) (tVar 3)) [some (V.ref ln), some (.ref lr), some (.ref p), some (.int (i : Int)), some (.str (ctext e.D))] H4 (.int e.n) := ev_op (ev_var rfl) (ev_var rfl) (rv_ixL (sq_of (e4 _ _ t2.num)) (atI_nat (j := i) gn))
        have w1 := ev_toS w0 tx.lg
        have w2 := ev_op w1 (ev_c (v := .str " ")) (rv_addN l1b)
        have w3 := ev_op w2 (ev_var (i := 4) (v := .str (ctext e.D)) rfl) (rv_addN l2b)
        refine s_app (K := K) (v := .str (lineE e)) (e4 _ _ hp2) (ev_var rfl) w3 (by rw [List.length_map, List.length_map, List.length_take]; omega) fun H5 e5 => ?_
        have np0 : H p = none := np
        refine ⟨_, _, rfl, ((e2.trans e4).trans e5).mut np0, ?_⟩
        rw [upd_same, List.take_add_one, List.getElem?_eq_getElem lt, he, List.map_append, List.map_append]
        rfl
    · rintro σ H2 ⟨v3, v4, rfl, e2, hp2⟩
      refine s_ret (ev_var rfl) fun H3 e3 => q p H3 np (e2.trans e3) ?_
      have z : ((es.length : Int)).toNat = es.length := by omega
      first
        | (rw [z, List.take_length] at hp2; exact e3 _ _ hp2)
        | (rw [List.take_length] at hp2; exact e3 _ _ hp2)
end
section
open Evl
theorem line_nl {e : Rc} {k : Nat} (h : e.n = k) (hk : k ≤ 999) (rd : RowD e.R e.D) : Nl 76 (lineE e) := by
  have c := ctext_txt rd.six
  have l3 : (TL.numL k).length ≤ 3 := TL.numL_len (by decide) (by omega)
  have t := line_tl h
  refine ⟨⟨?_, (line_txt h hk rd).2⟩, line_no10 h hk rd⟩
  have e1 : (lineE e).cps.size = (lineE e).cps.toList.length := by simp
  have e2 : (ctext e.D).cps.toList.length = (ctext e.D).cps.size := by simp
  rw [e1, t, List.length_append, List.length_cons, e2]
  have := c.1
  omega
theorem cutab (D : List Str) (x y : Nat) : ∃ M : List Str, cutV (D.map V.str) (some (x : Int)) (some (y : Int)) = M.map V.str ∧ M.length ≤ y - x ∧ ∀ z ∈ M, z ∈ D := by
  refine ⟨(D.drop (min x D.length)).take (min y D.length - min x D.length), ?_, ?_, fun z hz => List.mem_of_mem_drop (List.mem_of_mem_take hz)⟩
  · unfold cutV
    rw [HT.sIx_nat, HT.sIx_nat, List.length_map, List.map_take, List.map_drop]
  · rw [List.length_take]
    omega
theorem el_cutab {σ : L2.St} {H : Hp} {te t1 t2 : TE} {r : Addr} {D M : List Str} {x y : Nat} (h : Ev te σ H (.ref r)) (hr : H r = some (.lst (D.map V.str))) (h1 : Ev t1 σ H (.int (x : Int))) (h2 : Ev t2 σ H (.int (y : Int))) (e : cutV (D.map V.str) (some (x : Int)) (some (y : Int)) = M.map V.str) : EvL (tSl (rSlL K) te (tPart t1) (tPart t2)) σ H (M.map V.str) := by
  have z := el_sl (K := K) h (eo_some h1) (eo_some h2) (sq_of hr)
  rw [e] at z
  exact z
theorem ev_joinR {σ : L2.St} {H : Hp} {te : TE} {sep : Str} {L : List Str} {p : Addr} (h : Ev te σ H (.ref p)) (hp : H p = some (.lst (L.map V.str))) (few : L.length ≤ 100) (short : ∀ z ∈ L, z.length ≤ 1500) (s5 : sep.length ≤ 5) :
    Ev (tBM K "str" (fun x xs H Q => ∃ a p, ∃ ys : List Str, x = .str a ∧ xs = [.ref p] ∧ (SqL K H p (ys.map V.str) ∨ SqT K H p (ys.map V.str)) ∧ (ys.map (·.length)).sum + ys.length * a.length ≤ 16777216 ∧ Q (.str (Txt.join a ys)) H) (tC (.str sep)) (tCons te tNil)) σ H (.str (Txt.join sep L)) := fun H1 e1 Q q =>
  ⟨rfl, h H1 e1 _ fun H2 e2 => ⟨sep, p, L, rfl, rfl, .inl (SqL.of (e2 _ _ (e1 _ _ hp))), by
    have a := sum_le (L := L) (k := 1500) short
    have b : L.length * sep.length ≤ 100 * 5 := Nat.mul_le_mul few s5
    omega, q H2 e2⟩⟩
structure Tt (u : Addr) (H : Hp) (ln lr : Addr) (es : List Rc) : Prop where
  tab : TabAt H ln lr es
  lnu : ln ≠ u
  lru : lr ≠ u
  rau : ∀ e ∈ es, e.ra ≠ u
theorem Tt.ex {u : Addr} {H H' : Hp} {ln lr : Addr} {es : List Rc} (t : Tt u H ln lr es) (e : Ex H H') : Tt u H' ln lr es := ⟨t.tab.mono e, t.lnu, t.lru, t.rau⟩
theorem Tt.but {u : Addr} {H H' : Hp} {ln lr : Addr} {es : List Rc} (t : Tt u H ln lr es) (B : But u H H') : Tt u H' ln lr es := ⟨⟨B _ _ t.lnu t.tab.num, B _ _ t.lru t.tab.rows, fun e m => B _ _ (t.rau e m) (t.tab.each e m)⟩, t.lnu, t.lru, t.rau⟩
/-- _law_spoilt(source, numbers, rows, names) -/
def spSpoilt : Sp := fun vs H Q _ => ∃ (a l : Addr) (ns : List Int) (ln lr pn : Addr) (es : List Rc) (last : Int) (nms : List Str), vs = [.ref a, .ref ln, .ref lr, .ref pn] ∧ SrcL H a l ns ∧ Tt a H ln lr es ∧ EsOk es last ∧ 0 < es.length ∧ H pn = some (.lst (nms.map V.str)) ∧ pn ≠ a ∧ nms.length = 14 ∧ (∀ z ∈ nms, isName z = true) ∧
  ∀ (H' : Hp) (p : Addr) (L : List Str), H p = none → H' p = some (.lst (L.map V.str)) → Lns 200 L → SrcL H' a l ns → But a H H' → Q (.ref p) H'
theorem ok__law_spoilt (T : Txt P K mg) : FnOk P w K mg base CX0 14 T.f__law_spoilt T.d__law_spoilt ["_law_source_here", "_law_numbers_here", "_law_rows", "_law_names_here"] spSpoilt := by
  refine T.F__law_spoilt.ok sc__law_spoilt (fun vs H Q E h => ?_) (fun cdv A outer s H vs Q E hr h => ?_)
  · obtain ⟨a, l, ns, ln, lr, pn, es, last, nms, rfl, _⟩ := h
    rfl
  · obtain ⟨a, l, ns, ln, lr, pn, es, last, nms, rfl, S, t, o, pos, hN, pna, c14, nm, q⟩ := h
    refine ⟨_, (pss_cons (ps_set (i := 4) sc__law_spoilt.nd rfl (.inl rfl) (pe_call (ok__law_lines T) (hr.mono (by decide)) rfl T.g__law_lines T.F__law_lines.kp T.b__law_lines .nil pass0 (pa_cons (pv 1) (pa_cons (pv 2) pa_nil))))
      (pss_cons (ps_set (i := 5) sc__law_spoilt.nd rfl (.inl rfl) (pe_call (okL__law_take T) (hr.mono (by decide)) rfl T.g__law_take T.F__law_take.kp T.b__law_take .nil pass0 (pa_cons (pv 0) (pa_cons pe_int pa_nil))))
      (pss_cons (ps_set (i := 6) sc__law_spoilt.nd rfl (.inl rfl) (pe_call (okL__law_take T) (hr.mono (by decide)) rfl T.g__law_take T.F__law_take.kp T.b__law_take .nil pass0 (pa_cons (pv 0) (pa_cons (pe_callB call_len_seq (by rfl) T.n_len PySem.boot_len (pa_cons (pv 4) pa_nil)) pa_nil))))
      (pss_cons (ps_if (pt_cmpR op_eq (pv 5) pe_int (nomark _)) (pss_one (ps_ret (pe_op op_cat (pe_op op_cat (pe_op op_cat (pe_slice sl_list (pv 4) po_none (po_some (pv 6))) (pe_slice sl_list (pv 4) (po_some (pe_op op_add (pv 6) pe_int)) (po_some (pe_op op_add (pv 6) pe_int)))) (pe_slice sl_list (pv 4) (po_some (pv 6)) (po_some (pe_op op_add (pv 6) pe_int)))) (pe_slice sl_list (pv 4) (po_some (pe_op op_add (pv 6) pe_int)) po_none)))) pss_nil)
      (pss_cons (ps_if (pt_cmpR op_eq (pv 5) pe_int (nomark _)) (pss_one (ps_ret (pe_op op_cat (pe_op op_cat (pe_slice sl_list (pv 4) po_none (po_some (pv 6))) (pe_slice sl_list (pv 4) (po_some (pv 6)) (po_some (pe_op op_add (pv 6) pe_int)))) (pe_slice sl_list (pv 4) (po_some (pv 6)) po_none)))) pss_nil)
      (pss_cons (ps_if (pt_cmpR op_eq (pv 5) pe_int (nomark _)) (pss_one (ps_ret (pe_op op_cat (pe_op op_cat (pe_slice sl_list (pv 4) po_none (po_some (pv 6))) (pe_slice sl_list (pv 4) (po_some (pe_op op_add (pv 6) pe_int)) po_none)) (pe_slice sl_list (pv 4) (po_some (pv 6)) (po_some (pe_op op_add (pv 6) pe_int)))))) pss_nil)
      (pss_cons (ps_if (PW.pt (pw_and (pt_cmpR op_gt (pv 5) pe_int (nomark _)) (pw_and1 (pt_cmpR op_lt (pv 5) pe_int (nomark _))))) (pss_cons (ps_set (i := 7) sc__law_spoilt.nd rfl (.inl rfl) (pe_slice sl_str (pe_ix ix_list (pv 4) (pv 6) (fun _ _ => rfl)) (po_some (pe_callB call_len_str (by rfl) T.n_len PySem.boot_len (pa_cons (pe_callTy call_str_int (by rfl) T.n_str (by decide +kernel) (pa_cons (pe_ix ix_list (pv 1) (pv 6) (fun _ _ => rfl)) pa_nil)) pa_nil))) po_none))
      (pss_cons (ps_set (i := 8) sc__law_spoilt.nd rfl (.inl rfl) (pe_call (ok__law_other_line T) (hr.mono (by decide)) rfl T.g__law_other_line T.F__law_other_line.kp T.b__law_other_line .nil pass0 (pa_cons (pv 0) (pa_cons (pe_ix ix_list (pv 1) (pv 6) (fun _ _ => rfl)) (pa_cons (pe_ix ix_list (pv 1) (pe_callB (call_max2 rfl) (by rfl) T.n_max (by decide +kernel) (pa_cons pe_int (pa_cons (pe_op op_sub (pv 6) pe_int) pa_nil))) (fun _ _ => rfl)) (pa_cons (pv 7) (pa_cons (pv 5) pa_nil)))))))
      (pss_one (ps_ret (pe_op op_cat (pe_op op_cat (pe_slice sl_list (pv 4) po_none (po_some (pv 6))) (pe_lst (pa_cons (pv 8) pa_nil))) (pe_slice sl_list (pv 4) (po_some (pe_op op_add (pv 6) pe_int)) po_none)))))) pss_nil)
      (pss_cons (ps_if (pt_cmpR op_eq (pv 5) pe_int (nomark _)) (pss_one (ps_ret (pe_op op_cat (pe_op op_cat (pe_slice sl_list (pv 4) po_none (po_some (pv 6))) (pe_lst (pa_cons pe_str pa_nil))) (pe_slice sl_list (pv 4) (po_some (pv 6)) po_none)))) pss_nil)
      (pss_cons (ps_if (pt_cmpR op_eq (pv 5) pe_int (nomark _)) (pss_one (ps_ret (pe_op op_cat (pv 4) (pe_lst (pa_cons (pe_op op_add_str (pe_callTy call_str_int (by rfl) T.n_str (by decide +kernel) (pa_cons (pe_op op_add (pe_ix ix_list (pv 1) (pe_op op_sub (pe_callB call_len_seq (by rfl) T.n_len PySem.boot_len (pa_cons (pv 1) pa_nil)) pe_int) (fun _ _ => rfl)) (pe_call (okL__law_take T) (hr.mono (by decide)) rfl T.g__law_take T.F__law_take.kp T.b__law_take .nil pass0 (pa_cons (pv 0) (pa_cons pe_int pa_nil)))) pa_nil)) pe_str) pa_nil))))) pss_nil)
      (pss_cons (ps_if (PW.pt (pw_and (pt_cmpR op_gt (pv 5) pe_int (nomark _)) (pw_and1 (pt_cmpR op_lt (pv 5) pe_int (nomark _))))) (pss_cons (ps_set (i := 9) sc__law_spoilt.nd rfl (.inl rfl) (pe_call (ok__law_other_clause T) (hr.mono (by decide)) rfl T.g__law_other_clause T.F__law_other_clause.kp T.b__law_other_clause .nil pass0 (pa_cons (pv 0) (pa_cons (pe_call (ok__law_ordered T) (hr.mono (by decide)) rfl T.g__law_ordered T.F__law_ordered.kp T.b__law_ordered .nil pass0 (pa_cons (pe_ix ix_list (pv 2) (pv 6) (fun _ _ => rfl)) pa_nil)) (pa_cons (pv 3) (pa_cons (pv 5) pa_nil))))))
      (pss_one (ps_ret (pe_op op_cat (pe_op op_cat (pe_slice sl_list (pv 4) po_none (po_some (pv 6))) (pe_lst (pa_cons (pe_op op_add_str (pe_op op_add_str (pe_callTy call_str_int (by rfl) T.n_str (by decide +kernel) (pa_cons (pe_ix ix_list (pv 1) (pv 6) (fun _ _ => rfl)) pa_nil)) pe_str) (pe_bm PySem.F.plainAttrs_str PySem.F.slot_str_join PySem.F.type_str_join mt_join pe_str (pa_cons (pv 9) pa_nil))) pa_nil))) (pe_slice sl_list (pv 4) (po_some (pe_op op_add (pv 6) pe_int)) po_none))))) pss_nil)
      (pss_cons (ps_if (pt_cmpR op_eq (pv 5) pe_int (nomark _)) (pss_one (ps_ret (pe_op op_cat (pe_slice sl_list (pv 4) po_none (po_some (pv 6))) (pe_slice sl_list (pv 4) (po_some (pe_op op_add (pv 6) pe_int)) po_none)))) pss_nil)
      (pss_one (ps_ret (pv 4)))))))))))))), ?_⟩
    have few := o.few
    refine q_asgL (xs := (es.map lineE).map V.str) (el_call (ea_cons (ev_var rfl) (ea_cons (ev_var rfl) ea_nil)) fun H1 e1 Q q E => ⟨ln, lr, es, last, rfl, t.tab.mono e1, o, q⟩) fun lp H1 n1 e1 h1 => ?_
    obtain ⟨L0, hL0⟩ : ∃ L0, es.map lineE = L0 := ⟨_, rfl⟩
    have nl : ∀ z ∈ L0, Nl 76 z := fun z hz => by
      rw [← hL0] at hz
      obtain ⟨e, m, rfl⟩ := List.mem_map.mp hz
      obtain ⟨k, h, hk⟩ := Rc.nat o m
      exact line_nl h hk (o.row e m)
    have len0 : L0.length = es.length := by rw [← hL0, List.length_map]
    rw [hL0] at h1
    have lpa := (srl_off S n1).1
    have S1 := srl_ex S e1
    refine ⟨.ref a, rfl, a, 16, l, ns, rfl, S1, by decide, by decide, fun H2 st st0 st1 S2 C2 => ?_⟩
    dsimp only [gName]
    have h2 := C2 _ _ lpa h1
    refine q_asgRaw ⟨.ref a, rfl, ?_⟩
    refine (ev_is (ev_len (ev_var rfl) (sq_of h2)) (by rw [List.length_map, len0])) H2 (Ex.refl H2) _ fun H3 e3 => ⟨a, (es.length : Int), l, ns, rfl, srl_ex S2 e3, by omega, by omega, fun H4 i i0 i1 S4 C4 => ?_⟩
    dsimp only [gName]
    obtain ⟨i, rfl⟩ := Int.eq_ofNat_of_zero_le i0
    have hi : i < es.length := by omega
    have B4 : But a H H4 := fun c o n h => C4 c o n (e3 _ _ (C2 c o n (e1 _ _ h)))
    have h4 := C4 _ _ lpa (e3 _ _ h2)
    have t4 := t.but B4
    have hN4 := B4 _ _ pna hN
    clear h1 h2 S1 S2 C2 C4
    have out : ∀ {D' : Ends} {te : TE} {L : List Str} {H5 H6 : Hp} {σ : L2.St}, SrcL H5 a l ns → But a H H5 → D'.rt = Q → EvL te σ H5 (L.map V.str) → Lns 200 L → tRet te D' σ H5 := fun {D' te L H5 H6 σ} S5 B5 hq h ok => by
      refine s_retL h fun q' H7 nq e7 hq' => ?_
      rw [hq]
      exact q H7 q' L (B5.fr2 S5 nq) hq' ok (srl_ex S5 e7) fun c o n h => e7 _ _ (B5 c o n h)
    have S5 : ∀ {H5 : Hp}, Ex H4 H5 → SrcL H5 a l ns := fun e => srl_ex S4 e
    have B5 : ∀ {H5 : Hp}, Ex H4 H5 → But a H H5 := fun e c o n h => e _ _ (B4 c o n h)
    have nap : ∀ {A B : List Str}, (∀ z ∈ A, Nl 76 z) → (∀ z ∈ B, Nl 76 z) → ∀ z ∈ A ++ B, Nl 76 z := fun h1 h2 z hz => (List.mem_append.mp hz).elim (h1 z) (h2 z)
    have nT : ∀ z ∈ L0.take i, Nl 76 z := fun z hz => nl z (List.mem_of_mem_take hz)
    have nD : ∀ k, ∀ z ∈ L0.drop k, Nl 76 z := fun k z hz => nl z (List.mem_of_mem_drop hz)
    obtain ⟨M1, eM1, lM1, mM1⟩ := cutab L0 (i + 1) (i + 2)
    obtain ⟨M2, eM2, lM2, mM2⟩ := cutab L0 i (i + 1)
    have n1' : ∀ z ∈ M1, Nl 76 z := fun z hz => nl z (mM1 z hz)
    have n2' : ∀ z ∈ M2, Nl 76 z := fun z hz => nl z (mM2 z hz)
    have add : ∀ {σ : L2.St} {H5 : Hp} (k : Nat), σ[6]? = some (some (V.int (i : Int))) → Ev (tOp (rI0 fun i j => .int (i + j)) (tVar 6) (tC (.int (k : Int)))) σ H5 (.int ((i + k : Nat) : Int)) := fun k e => ev_op (ev_var e) ev_c (fun H1 _ Q q => ⟨_, _, rfl, rfl, q H1 (Ex.refl H1)⟩)
    refine q_when (b := decide (V.int st = V.int 1)) (et_is (et_test (ev_op (ev_var rfl) ev_c (rv_eq rfl))) rfl) (fun _ H5 e5 => ?_) (fun _ H5 e5 => ?_)
    · refine out (H6 := H5) (L := L0.take i ++ M1 ++ M2 ++ L0.drop (i + 2)) (S5 e5) (B5 e5) rfl ?_ (lns_nl (nap (nap (nap nT n1') n2') (nD _)) (by decide) (by rw [List.length_append, List.length_append, List.length_append, List.length_take, List.length_drop]; omega))
      rw [List.map_append, List.map_append, List.map_append, List.map_take, List.map_drop]
      exact el_catL (el_catL (el_catL (el_take (K := K) (k := i) (ev_var rfl) (ev_var rfl) (e5 _ _ h4)) (el_cutab (x := i + 1) (y := i + 2) (ev_var rfl) (e5 _ _ h4) (add 1 rfl) (add 2 rfl) eM1) (by rw [List.length_take, List.length_map, List.length_map]; omega)) (el_cutab (x := i) (y := i + 1) (ev_var rfl) (e5 _ _ h4) (ev_var rfl) (add 1 rfl) eM2) (by rw [List.length_append, List.length_take, List.length_map, List.length_map, List.length_map]; omega)) (el_drop (K := K) (k := i + 2) (ev_var rfl) (add 2 rfl) (e5 _ _ h4)) (by rw [List.length_append, List.length_append, List.length_take, List.length_drop, List.length_map, List.length_map, List.length_map]; omega)
    refine q_when (b := decide (V.int st = V.int 2)) (et_is (et_test (ev_op (ev_var rfl) ev_c (rv_eq rfl))) rfl) (fun _ H6 e6 => ?_) (fun _ H6 e6 => ?_)
    · have e := e5.trans e6
      refine out (H6 := H6) (L := L0.take i ++ M2 ++ L0.drop i) (S5 e) (B5 e) rfl ?_ (lns_nl (nap (nap nT n2') (nD _)) (by decide) (by rw [List.length_append, List.length_append, List.length_take, List.length_drop]; omega))
      rw [List.map_append, List.map_append, List.map_take, List.map_drop]
      exact el_catL (el_catL (el_take (K := K) (k := i) (ev_var rfl) (ev_var rfl) (e _ _ h4)) (el_cutab (x := i) (y := i + 1) (ev_var rfl) (e _ _ h4) (ev_var rfl) (add 1 rfl) eM2) (by rw [List.length_take, List.length_map, List.length_map]; omega)) (el_drop (K := K) (k := i) (ev_var rfl) (ev_var rfl) (e _ _ h4)) (by rw [List.length_append, List.length_take, List.length_drop, List.length_map, List.length_map]; omega)
    have e46 := e5.trans e6
    refine q_when (b := decide (V.int st = V.int 3)) (et_is (et_test (ev_op (ev_var rfl) ev_c (rv_eq rfl))) rfl) (fun _ H7 e7 => ?_) (fun _ H7 e7 => ?_)
    · have e := e46.trans e7
      refine out (H6 := H7) (L := L0.take i ++ L0.drop (i + 1) ++ M2) (S5 e) (B5 e) rfl ?_ (lns_nl (nap (nap nT (nD _)) n2') (by decide) (by rw [List.length_append, List.length_append, List.length_take, List.length_drop]; omega))
      rw [List.map_append, List.map_append, List.map_take, List.map_drop]
      exact el_catL (el_catL (el_take (K := K) (k := i) (ev_var rfl) (ev_var rfl) (e _ _ h4)) (el_drop (K := K) (k := i + 1) (ev_var rfl) (add 1 rfl) (e _ _ h4)) (by rw [List.length_take, List.length_drop, List.length_map]; omega)) (el_cutab (x := i) (y := i + 1) (ev_var rfl) (e _ _ h4) (ev_var rfl) (add 1 rfl) eM2) (by rw [List.length_append, List.length_take, List.length_drop, List.length_map, List.length_map]; omega)
    have e47 := e46.trans e7
    have get : L0[i]? = some (L0[i]'(by omega)) := List.getElem?_eq_getElem (by omega)
    have nli := nl _ (List.getElem_mem (l := L0) (n := i) (by omega))
    have gn : ((es.map Rc.n).map V.int)[i]? = some (.int es[i].n) := by rw [List.getElem?_map, List.getElem?_map, List.getElem?_eq_getElem hi]; rfl
    have rng : ∀ {k : Nat} (hk : k < es.length), 0 ≤ es[k].n ∧ es[k].n < 10000 := fun hk => by
      have := o.rng _ (List.getElem_mem hk)
      have := o.l9
      omega
    have put : ∀ {D' : Ends} {te : TE} {y : Str} {H5 : Hp} {σ : L2.St} {k : Nat}, SrcL H5 a l ns → But a H H5 → D'.rt = Q → H5 lp = some (.lst (L0.map V.str)) → σ[4]? = some (some (V.ref lp)) → σ[6]? = some (some (V.int (i : Int))) → Ev te σ H5 (.str y) → Txt8 200 y → y.cps.toList.count 10 ≤ 170 → k ≤ 1 → tRet (tOp rCat (tOp rCat (tSl (rSlL K) (tVar 4) tNoPart (tPart (tVar 6))) (tLst (tCons te tNil))) (tSl (rSlL K) (tVar 4) (tPart (if k = 0 then tVar 6 else tOp (rI0 fun i j => .int (i + j)) (tVar 6) (tC (.int 1)))) tNoPart)) D' σ H5 := fun {D' te y H5 σ k} S5 B5 hq hl s4 s6 h ty cy k1 => by
      refine out (H6 := H5) (L := L0.take i ++ [y] ++ L0.drop (i + k)) S5 B5 hq ?_ (lns_put nT (nD _) ty cy (by decide) (Nat.le_refl _) (by rw [List.length_take, List.length_drop]; omega))
      rw [List.map_append, List.map_append, List.map_take, List.map_drop]
      refine el_catL (el_catL (el_take (K := K) (k := i) (ev_var s4) (ev_var s6) hl) (el_lst (ea_cons h ea_nil) (by show 1 ≤ 100000; omega)) (by simp only [List.length_take, List.length_map, List.length_cons, List.length_nil]; omega)) (el_drop (K := K) (k := i + k) (ev_var s4) ?_ hl) (by simp only [List.length_append, List.length_take, List.length_drop, List.length_map, List.length_cons, List.length_nil]; omega)
      have hk : k = 0 ∨ k = 1 := by omega
      rcases hk with rfl | rfl
      · rw [if_pos rfl]
        exact ev_var s6
      · rw [if_neg (by decide)]
        exact add 1 s6
    refine q_when (b := decide ((3 : Int) < st) && decide (st < 7)) (et_and (et_test (ev_op (ev_var rfl) ev_c (fun H1 _ Q q => ⟨_, _, rfl, rfl, q H1 (Ex.refl H1)⟩))) (fun _ => et_test (ev_op (ev_var rfl) ev_c (fun H1 _ Q q => ⟨_, _, rfl, rfl, q H1 (Ex.refl H1)⟩)))) (fun _ H8 e8 => ?_) (fun _ H8 e8 => ?_)
    · have e48 := e47.trans e8
      have t8 := t4.ex e48
      refine q_asgRaw ?_
      refine (ev_op (ev_var rfl) (ev_var rfl) (rv_ixL (v := .str (L0[i]'(by omega))) (sq_of (e48 _ _ h4)) (atI_nat (j := i) (by rw [List.getElem?_map, get]; rfl)))) H8 (Ex.refl H8) _ fun H9 e9 => ?_
      have t9 := t8.ex e9
      have l76 : (L0[i]'(by omega)).length ≤ 76 := nli.1.1
      have lns := (num_nl (rng hi).1 (rng hi).2).1.1
      refine to_part ((ev_lenS (ev_toS (ev_op (ev_var rfl) (ev_var rfl) (rv_ixL (v := .int es[i].n) (sq_of t9.tab.num) (atI_nat (j := i) gn))) (itx_of (rng hi).1 (rng hi).2)) (by omega)) H9 (Ex.refl H9) _ fun Ha ea => ⟨_, rfl, _, rfl, line_of (by omega), ?_⟩)
      dsimp only [gName]
      have nrest : Nl 90 (cutS (L0[i]'(by omega)) (some ((toString es[i].n : Str).length : Int)) none) := (nli.cut _ _).mono (by decide)
      have e4a := (e48.trans e9).trans ea
      have ta := t4.ex e4a
      have hm : i - 1 < es.length := by omega
      have evm : Ev (tOp (rIxL K) (tVar 1) (tCB (fun xs H Q => ∃ i j, xs = [V.int i, V.int j] ∧ Q (V.int (if j > i then j else i)) H) (tCons (tC (V.int 0)) (tCons (tOp (rI0 fun i j => .int (i - j)) (tVar 6) (tC (.int 1))) tNil)))) [some (V.ref a), some (.ref ln), some (.ref lr), some (.ref pn), some (.ref lp), some (.int st), some (.int (i : Int)), some (.str (cutS (L0[i]'(by omega)) (some ((toString es[i].n : Str).length : Int)) none)), none, none] Ha (.int (es[i - 1]'hm).n) :=
        ev_op (ev_var rfl) (ev_is (v := .int (if (i : Int) - 1 > 0 then (i : Int) - 1 else 0)) (w := .int ((i - 1 : Nat) : Int)) (ev_cb (vs := [.int 0, .int ((i : Int) - 1)]) (ea_cons ev_c (ea_cons (ev_op (ev_var rfl) ev_c (fun H1 _ Q q => ⟨_, _, rfl, rfl, q H1 (Ex.refl H1)⟩)) ea_nil)) fun H1 e Q q => ⟨_, _, rfl, q H1 (Ex.refl H1)⟩) (congrArg V.int (by split <;> omega))) (rv_ixL (sq_of ta.tab.num) (atI_nat (j := i - 1) (by rw [List.getElem?_map, List.getElem?_map, List.getElem?_eq_getElem hm]; rfl)))
      refine ⟨.ref a, rfl, ?_⟩
      refine (ev_op (ev_var rfl) (ev_var rfl) (rv_ixL (v := .int es[i].n) (sq_of ta.tab.num) (atI_nat (j := i) gn))) Ha (Ex.refl Ha) _ fun Hb eb => ?_
      refine evm Hb eb _ fun Hc ec => ⟨_, rfl, _, rfl, a, l, ns, es[i].n, (es[i - 1]'hm).n, st, _, rfl, (rng hi).1, (rng hi).2, (rng hm).1, (rng hm).2, nrest, S5 ((e4a.trans eb).trans ec), fun Hd y ny Sd Cd => ?_⟩
      dsimp only [gName]
      have e4c := (e4a.trans eb).trans ec
      exact put (k := 1) Sd ((B5 e4c).trans Cd) rfl (Cd _ _ lpa (e4c _ _ h4)) rfl rfl (ev_var rfl) ny.1 (by rw [List.count_eq_zero.mpr ny.2]; decide) (by decide)
    have e48 := e47.trans e8
    refine q_when (b := decide (V.int st = V.int 7)) (et_is (et_test (ev_op (ev_var rfl) ev_c (rv_eq rfl))) rfl) (fun _ H9 e9 => ?_) (fun _ H9 e9 => ?_)
    · have e := e48.trans e9
      exact put (k := 0) (S5 e) (B5 e) rfl (e _ _ h4) rfl rfl (y := "") ev_c ⟨by decide, by decide⟩ (by decide) (by decide)
    have e49 := e48.trans e9
    refine q_when (b := decide (V.int st = V.int 8)) (et_is (et_test (ev_op (ev_var rfl) ev_c (rv_eq rfl))) rfl) (fun _ Ha ea => ?_) (fun _ Ha ea => ?_)
    · have e := e49.trans ea
      have ta := t4.ex e
      have hl : es.length - 1 < es.length := by omega
      have lnE : ((es.map Rc.n).map V.int).length = es.length := by rw [List.length_map, List.length_map]
      refine ⟨_, rfl, ?_⟩
      refine (ev_op (ev_var rfl) (ev_op (ev_is (ev_len (ev_var rfl) (sq_of ta.tab.num)) (by rw [lnE])) ev_c (fun H1 _ Q q => ⟨_, _, rfl, rfl, q H1 (Ex.refl H1)⟩)) (rv_ixL (v := .int (es[es.length - 1]'hl).n) (sq_of ta.tab.num) (by
        have z : (es.length : Int) - 1 = ((es.length - 1 : Nat) : Int) := by omega
        rw [z]
        exact atI_nat (by rw [List.getElem?_map, List.getElem?_map, List.getElem?_eq_getElem hl]; rfl)))) Ha (Ex.refl Ha) _ fun Hb eb => ?_
      have eb4 := e.trans eb
      refine ⟨.ref a, rfl, a, 3, l, ns, rfl, S5 eb4, by decide, by decide, fun Hc k k0 k1 Sc Cc => ?_⟩
      have rk : 0 ≤ (es[es.length - 1]'hl).n + k ∧ (es[es.length - 1]'hl).n + k < 10000 := by
        have := o.rng _ (List.getElem_mem hl)
        have := o.l9
        omega
      have nk := num_nl rk.1 rk.2
      have lk : (toString ((es[es.length - 1]'hl).n + k) : Str).length ≤ 4 := nk.1.1
      have z2 : Nl 2 " 0" := ⟨⟨by decide, by decide⟩, by decide⟩
      refine ⟨_, _, rfl, rfl, _, rfl, itx_of rk.1 rk.2, _, _, rfl, rfl, line_of (by
        have : (" 0" : Str).length = 2 := by decide
        show (toString ((es[es.length - 1]'hl).n + k) : Str).length + (" 0" : Str).length ≤ 1000
        omega), (by show 1 ≤ sizeLine; decide), fun p2 n2 => ?_⟩
      have ny := nk.app z2
      have hc := Cc _ _ lpa (eb4 _ _ h4)
      have Bc := (B5 eb4).trans Cc
      have ep : Ex Hc (upd Hc p2 (.lst [.str ((toString ((es[es.length - 1]'hl).n + k) : Str) ++ " 0")])) := Ex.new n2
      refine ⟨lp, p2, _, [.str ((toString ((es[es.length - 1]'hl).n + k) : Str) ++ " 0")], rfl, rfl, ep _ _ hc, upd_same, sz_of (by rw [List.length_map]; simp only [List.length_cons, List.length_nil]; omega), fun p3 n3 => ?_⟩
      have e3 := ep.trans (Ex.new (o := .lst (L0.map V.str ++ [.str ((toString ((es[es.length - 1]'hl).n + k) : Str) ++ " 0")])) n3)
      exact q _ p3 (L0 ++ [(toString ((es[es.length - 1]'hl).n + k) : Str) ++ " 0"]) (Bc.fr2 Sc (fresh_back ep n3)) (by rw [upd_same, List.map_append]; rfl) (lns_nl (n := 76) (nap nl fun z hz => by rw [List.mem_singleton.mp hz]; exact ny.mono (by decide)) (by decide) (by rw [List.length_append]; simp only [List.length_cons, List.length_nil]; omega)) (srl_ex Sc e3) fun c o n h => e3 _ _ (Bc c o n h)
    have e4a := e49.trans ea
    refine q_when (b := decide ((8 : Int) < st) && decide (st < 14)) (et_and (et_test (ev_op (ev_var rfl) ev_c (fun H1 _ Q q => ⟨_, _, rfl, rfl, q H1 (Ex.refl H1)⟩))) (fun _ => et_test (ev_op (ev_var rfl) ev_c (fun H1 _ Q q => ⟨_, _, rfl, rfl, q H1 (Ex.refl H1)⟩)))) (fun _ Hb eb => ?_) (fun _ Hb eb => ?_)
    · have e := e4a.trans eb
      have tb := t4.ex e
      have rd := o.row _ (List.getElem_mem hi)
      obtain ⟨row, N, od, eD⟩ := id rd
      refine q_asgRaw ⟨.ref a, rfl, ?_⟩
      refine (el_call (sp := spOrdered) (E := E0) (ea_cons (ev_op (ev_var rfl) (ev_var rfl) (rv_ixL (v := .ref es[i].ra) (sq_of tb.tab.rows) (atI_nat (j := i) (by rw [List.getElem?_map, List.getElem?_eq_getElem hi]; rfl)))) ea_nil) fun H1 e1 Q q E => ⟨es[i].ra, es[i].R, rfl, e1 _ _ (tb.tab.each _ (List.getElem_mem hi)), Nat.le_trans row.few (by decide), fun z hz => Nat.le_trans (lit_txt9 (row.lit z hz)).1 (by decide), fun N' od' => by
        rw [od'.uniq od fun _ => Iff.rfl]
        exact q⟩) Hb (Ex.refl Hb) _ fun pr Hc nc ec hpr => ⟨_, rfl, _, rfl, a, l, ns, pr, pn, due es[i].R N, nms, st, rfl, S5 (e.trans ec), hpr, (srl_off (S5 e) nc).1, by rw [row.due_len od]; exact row.few, fun z hz => row.lit z ((due_mem od z).mp hz), (e.trans ec) _ _ hN4, pna, c14, nm, fun Hd pw W nd hW l7 tW Sd Cd => ?_⟩
      dsimp only [gName]
      have ecd := e.trans ec
      have Bd := (B5 ecd).trans Cd
      have td := (t4.ex ecd).but Cd
      have nn := num_nl (rng hi).1 (rng hi).2
      have ln4 : (toString es[i].n : Str).length ≤ 4 := nn.1.1
      have tj := few_wt l7 tW
      have lj : (Txt.join " | " W).length ≤ 161 := tj.1
      have sp1 : Txt8 1 " " := ⟨by decide, by decide⟩
      have ty := (nn.1.app sp1).app tj
      have l5 : ((toString es[i].n : Str) ++ " ").length ≤ 4 + 1 := app_le ln4 (by decide)
      have cy : ((toString es[i].n : Str) ++ " " ++ Txt.join " | " W).cps.toList.count 10 ≤ 170 := by
        refine Nat.le_trans List.count_le_length ?_
        have l : ((toString es[i].n : Str) ++ " " ++ Txt.join " | " W).cps.toList.length = ((toString es[i].n : Str) ++ " " ++ Txt.join " | " W).cps.size := Array.length_toList
        have := ty.1
        omega
      exact put (k := 1) Sd Bd rfl (Cd _ _ lpa (ecd _ _ h4)) rfl rfl (ev_op (ev_op (ev_toS (ev_op (ev_var rfl) (ev_var rfl) (rv_ixL (v := .int es[i].n) (sq_of td.tab.num) (atI_nat (j := i) gn))) (itx_of (rng hi).1 (rng hi).2)) ev_c (rv_addN (by
        have : (" " : Str).length = 1 := by decide
        show (toString es[i].n : Str).length + (" " : Str).length ≤ 3000
        omega))) (ev_joinR (ev_var rfl) hW (by omega) (fun z hz => Nat.le_trans (tW z hz).1 (by decide)) (by decide)) (rv_addN (by omega))) (ty.mono (by decide)) cy (by decide)
    have e4b := e4a.trans eb
    refine q_when (b := decide (V.int st = V.int 14)) (et_is (et_test (ev_op (ev_var rfl) ev_c (rv_eq rfl))) rfl) (fun _ Hc ec => ?_) (fun _ Hc ec => ?_)
    · have e := e4b.trans ec
      refine out (H6 := Hc) (L := L0.take i ++ L0.drop (i + 1)) (S5 e) (B5 e) rfl ?_ (lns_nl (nap nT (nD _)) (by decide) (by rw [List.length_append, List.length_take, List.length_drop]; omega))
      rw [List.map_append, List.map_take, List.map_drop]
      exact el_catL (el_take (K := K) (k := i) (ev_var rfl) (ev_var rfl) (e _ _ h4)) (el_drop (K := K) (k := i + 1) (ev_var rfl) (add 1 rfl) (e _ _ h4)) (by rw [List.length_take, List.length_drop, List.length_map]; omega)
    · have e := e4b.trans ec
      exact s_ret (ev_var rfl) fun Hd ed => q Hd lp L0 n1 ((e.trans ed) _ _ h4) (lns_nl nl (by decide) (by omega)) (S5 (e.trans ed)) (B5 (e.trans ed))
end
section
open Evl
/-- _law_numbers(source, many) -/
def spNumbers : Sp := fun vs H Q _ => ∃ (a l : Addr) (ns : List Int) (many : Nat), vs = [.ref a, .int (many : Int)] ∧ many ≤ 30 ∧ SrcL H a l ns ∧
  ∀ (H' : Hp) (p : Addr) (nl : List Int), H p = none → SrcL H' a l ns → But a H H' → H' p = some (.lst (nl.map V.int)) → nl.length = many → nl.Pairwise (· < ·) → (∀ n ∈ nl, 1 ≤ n ∧ n ≤ 40 * (many : Int)) → Q (.ref p) H'
theorem ok__law_numbers (T : Txt P K mg) : FnOk P w K mg base CX0 2 T.f__law_numbers T.d__law_numbers ["_law_source_here", "_law_many"] spNumbers := by
  refine T.F__law_numbers.ok sc__law_numbers (fun vs H Q E h => ?_) (fun cdv A outer s H vs Q E hr h => ?_)
  · obtain ⟨a, l, ns, many, rfl, _⟩ := h
    rfl
  · obtain ⟨a, l, ns, many, rfl, m30, S, q⟩ := h
    refine ⟨_, (pss_cons (ps_set (i := 2) sc__law_numbers.nd rfl (.inl rfl) (pe_call (okL__law_take T) (hr.mono (by decide)) rfl T.g__law_take T.F__law_take.kp T.b__law_take .nil pass0 (pa_cons (pv 0) (pa_cons pe_int pa_nil))))
      (pss_cons (ps_set (i := 3) sc__law_numbers.nd rfl (.inl rfl) (pe_lst pa_nil))
      (pss_cons (ps_set (i := 4) sc__law_numbers.nd rfl (.inl rfl) pe_int)
      (pss_cons (ps_for PassesOwn.never rfl (pi_range1 rfl T.n_range (pa_cons (pv 1) pa_nil)) (pg_name (i := 5) sc__law_numbers.nd rfl (.inl rfl)) (pss_cons (ps_set (i := 4) sc__law_numbers.nd rfl (.inl rfl) (pe_op op_add (pv 4) pe_int))
      (Evl.pss_cut (ps_if (pt_cmpR op_eq (pv 2) pe_int (nomark _)) (pss_one (ps_set (i := 4) sc__law_numbers.nd rfl (.inl rfl) (pe_op op_add (pv 4) (pe_call (okL__law_take T) (hr.mono (by decide)) rfl T.g__law_take T.F__law_take.kp T.b__law_take .nil pass0 (pa_cons (pv 0) (pa_cons pe_int pa_nil)))))) pss_nil)
      (pss_one (ps_expr (pe_bm PySem.F.plainAttrs_list PySem.F.slot_list_append PySem.F.type_list_append mt_append (pv 3) (pa_cons (pv 4) pa_nil)))))))
      (pss_one (ps_ret (pv 3))))))), ?_⟩
    refine ⟨.ref a, rfl, a, 2, l, ns, rfl, S, by decide, by decide, fun H1 g g0 g1 S1 B1 => ?_⟩
    dsimp only [gName]
    refine q_asgL (xs := []) (el_lst ea_nil (by decide)) fun p H2 np e2 hp => ?_
    refine q_asg (v := .int 0) ev_c fun H3 e3 => ?_
    have np0 : H p = none := by
      cases h : H p with
      | none => rfl
      | some o =>
        by_cases e : p = a
        · obtain ⟨⟨_, _, _, _, _, h1⟩, _⟩ := S1
          rw [e, h1] at np; cases np
        · rw [B1 p o e h] at np; cases np
    have off := srl_off S1 np
    have B3 : But a H H3 := fun c o n h => e3 _ _ (e2 _ _ (B1 c o n h))
    refine q_forR1 (n := (many : Int)) (j := 5) (ea_cons (ev_var rfl) ea_nil) (by omega) (fun i σ H' => ∃ (v5 : Option V) (last : Int) (nl : List Int), σ = [some (V.ref a), some (.int (many : Int)), some (.int g), some (.ref p), some (.int last), v5] ∧ SrcL H' a l ns ∧ But a H H' ∧ H' p = some (.lst (nl.map V.int)) ∧ nl.length = i ∧ nl.Pairwise (· < ·) ∧ (∀ n ∈ nl, 1 ≤ n ∧ n ≤ last) ∧ 0 ≤ last ∧ last ≤ 40 * (i : Int))
      (fun H4 e4 => ⟨_, 0, [], rfl, srl_ex S1 ((e2.trans e3).trans e4), fun c o n h => e4 _ _ (B3 c o n h), e4 _ _ (e3 _ _ hp), rfl, .nil, (fun n m => nomatch m), by omega, by omega⟩) ?_ ?_
    · rintro i σ H4 hi ⟨v5, last, nl, rfl, S4, B4, h4, len, asc, rng, l0, l1⟩
      refine q_asg (v := .int (last + 1)) (ev_op (ev_var rfl) ev_c (fun H1 _ Q q => ⟨_, _, rfl, rfl, q H1 (Ex.refl H1)⟩)) fun H5 e5 => ?_
      refine ⟨fun σ' H' => ∃ last2 : Int, σ' = [some (V.ref a), some (.int (many : Int)), some (.int g), some (.ref p), some (.int last2), some (.int (i : Int))] ∧ last + 1 ≤ last2 ∧ last2 ≤ last + 40 ∧ SrcL H' a l ns ∧ But a H H' ∧ H' p = some (.lst (nl.map V.int)), ?_, ?_⟩
      · have B5 : But a H H5 := fun c o n h => e5 _ _ (B4 c o n h)
        refine s_when (b := decide (V.int g = V.int 1)) (et_test (ev_op (ev_var rfl) ev_c (rv_eq rfl))) (fun _ H6 e6 => ?_) (fun _ H6 e6 => ⟨last + 1, rfl, by omega, by omega, srl_ex S4 (e5.trans e6), fun c o n h => e6 _ _ (B5 c o n h), e6 _ _ (e5 _ _ h4)⟩)
        refine ⟨_, rfl, .ref a, rfl, a, 40, l, ns, rfl, srl_ex S4 (e5.trans e6), by decide, by decide, fun H7 k k0 k1 S7 B7 => ⟨_, _, rfl, rfl, ?_⟩⟩
        exact ⟨last + 1 + k, rfl, by omega, by omega, S7, fun c o n h => B7 c o n (e6 _ _ (B5 c o n h)), B7 _ _ off.1 (e6 _ _ (e5 _ _ h4))⟩
      · rintro σ' H6 ⟨last2, rfl, a1, a2, S6, B6, h6⟩
        refine s_app (K := K) h6 (ev_var rfl) (ev_var rfl) (by rw [List.length_map]; omega) fun H7 e7 => ⟨_, last2, nl ++ [last2], rfl, srl_put (srl_ex S6 e7) off.1 off.2, ?_, ?_, by rw [List.length_append, List.length_singleton]; omega, ?_, ?_, by omega, by omega⟩
        · exact But.upd2 (fun c o n h => e7 _ _ (B6 c o n h)) np0
        · rw [upd_same, List.map_append]; rfl
        · rw [List.pairwise_append]
          refine ⟨asc, by simp, fun x hx y hy => ?_⟩
          rw [List.mem_singleton.mp hy]
          have := (rng x hx).2
          omega
        · intro n hn
          rcases List.mem_append.mp hn with m | m
          · have := rng n m; omega
          · rw [List.mem_singleton.mp m]; omega
    · rintro σ H4 ⟨v5, last, nl, rfl, S4, B4, h4, len, asc, rng, l0, l1⟩
      refine s_ret (ev_var rfl) fun H5 e5 => q H5 p nl np0 (srl_ex S4 e5) (fun c o n h => e5 _ _ (B4 c o n h)) (e5 _ _ h4) (by omega) asc fun n hn => ?_
      have := rng n hn
      omega
end
section
open Evl
/-- rows that are new since H -/
structure NewR (k : Nat) (H H' : Hp) (nms : List Str) (rs : List (Addr × List Str)) : Prop where
  at_ : ∀ x ∈ rs, H' x.1 = some (.lst (x.2.map V.str)) ∧ H x.1 = none
  row : ∀ x ∈ rs, RowL k x.2
  sub : ∀ x ∈ rs, ∀ z ∈ x.2, bare z ∈ nms
theorem NewR.ex {k : Nat} {H H' H2 : Hp} {nms : List Str} {rs : List (Addr × List Str)} (h : NewR k H H' nms rs) (e : Ex H' H2) : NewR k H H2 nms rs := ⟨fun x mx => ⟨e _ _ (h.at_ x mx).1, (h.at_ x mx).2⟩, h.row, h.sub⟩
theorem NewR.keep {k : Nat} {H H' H2 : Hp} {nms : List Str} {rs : List (Addr × List Str)} {a l : Addr} {ns : List Int} (h : NewR k H H' nms rs) (S : SrcL H a l ns) (B : But a H' H2) : NewR k H H2 nms rs := ⟨fun x mx => ⟨B _ _ (srl_off S (h.at_ x mx).2).1 (h.at_ x mx).1, (h.at_ x mx).2⟩, h.row, h.sub⟩
theorem NewR.app {k : Nat} {H H' : Hp} {nms : List Str} {rs ss : List (Addr × List Str)} (h : NewR k H H' nms rs) (g : NewR k H H' nms ss) : NewR k H H' nms (rs ++ ss) := ⟨fun x mx => (List.mem_append.mp mx).elim (h.at_ x) (g.at_ x), fun x mx => (List.mem_append.mp mx).elim (h.row x) (g.row x), fun x mx => (List.mem_append.mp mx).elim (h.sub x) (g.sub x)⟩
/-- a new row list p is put at .. -/
theorem NewR.upd {k : Nat} {H H' : Hp} {nms : List Str} {rs : List (Addr × List Str)} {p : Addr} {o : HO} (h : NewR k H H' nms rs) (n : ∀ x ∈ rs, x.1 ≠ p) : NewR k H (L2.upd H' p o) nms rs := ⟨fun x mx => ⟨by rw [upd_ne (n x mx)]; exact (h.at_ x mx).1, (h.at_ x mx).2⟩, h.row, h.sub⟩
/-- what is known in _law_rows: the rows that are made -/
structure RwI (H : Hp) (a l : Addr) (ns : List Int) (nms M : List Str) (tl : Addr) (m : Nat) (H' : Hp) (p : Addr) (rs : List (Addr × List Str)) : Prop where
  src : SrcL H' a l ns
  but : But a H H'
  turned : H' tl = some (.lst (M.map V.str))
  new : H p = none
  tp : tl ≠ p
  at_ : H' p = some (.lst (rs.map fun x => V.ref x.1))
  rows : NewR m H H' nms rs
  off : ∀ x ∈ rs, x.1 ≠ p
theorem RwI.ex {H : Hp} {a l : Addr} {ns : List Int} {nms M : List Str} {tl : Addr} {m : Nat} {H' H2 : Hp} {p : Addr} {rs : List (Addr × List Str)} (I : RwI H a l ns nms M tl m H' p rs) (e : Ex H' H2) : RwI H a l ns nms M tl m H2 p rs :=
  ⟨srl_ex I.src e, fun c o n h => e _ _ (I.but c o n h), e _ _ I.turned, I.new, I.tp, e _ _ I.at_, I.rows.ex e, I.off⟩
/-- a row more -/
theorem RwI.push {H : Hp} {a l : Addr} {ns : List Int} {nms M : List Str} {tl : Addr} {m : Nat} {H' H2 : Hp} {p r : Addr} {rs : List (Addr × List Str)} {L : List Str} (I : RwI H a l ns nms M tl m H' p rs) (S : SrcL H a l ns) (ta : tl ≠ a) (S2 : SrcL H2 a l ns) (B : But a H' H2) (nr : H' r = none) (hr : H2 r = some (.lst (L.map V.str))) (row : RowL m L) (sub : ∀ z ∈ L, bare z ∈ nms) :
    RwI H a l ns nms M tl m (L2.upd H2 p (.lst ((rs.map fun x => V.ref x.1) ++ [.ref r]))) p (rs ++ [(r, L)]) := by
  have pa := srl_off S I.new
  have rp : r ≠ p := fun e => by rw [e, I.at_] at nr; cases nr
  have nr0 : H r = none := I.but.fr2 I.src nr
  have k := (I.rows.keep S B).upd (p := p) (o := .lst ((rs.map fun x => V.ref x.1) ++ [.ref r])) I.off
  refine ⟨srl_put S2 pa.1 pa.2, fun c o n h => ?_, ?_, I.new, I.tp, ?_, k.app ⟨fun x mx => ?_, fun x mx => ?_, fun x mx => ?_⟩, fun x mx => ?_⟩
  · rw [upd_ne (ne_of_none h I.new)]
    exact B _ _ n (I.but c o n h)
  · rw [upd_ne I.tp]
    exact B _ _ ta I.turned
  · rw [upd_same, List.map_append]
    rfl
  · rw [List.mem_singleton.mp mx]
    exact ⟨by rw [upd_ne rp]; exact hr, nr0⟩
  · rw [List.mem_singleton.mp mx]; exact row
  · rw [List.mem_singleton.mp mx]; exact sub
  · rcases List.mem_append.mp mx with h | h
    · exact I.off x h
    · rw [List.mem_singleton.mp h]; exact rp
def sumN (es : List Rc) : Nat := (rowNames (es.map Rc.row)).length
theorem sumN_cons (x : Rc) (ys : List Rc) : sumN (x :: ys) = x.R.length + sumN ys := by
  unfold sumN
  rw [rowNames_row, rowNames_row, List.flatMap_cons, List.length_append, List.length_map]
theorem sumN_k {k : Nat} : ∀ {es : List Rc}, (∀ e ∈ es, e.R.length ≤ k) → sumN es ≤ k * es.length
  | [], _ => Nat.le_of_eq rfl
  | e :: es, h => by
    have ih := sumN_k (es := es) fun x m => h x (List.mem_cons_of_mem _ m)
    have h1 := h e List.mem_cons_self
    rw [sumN_cons, List.length_cons, Nat.mul_succ]
    omega
theorem tc_eq {x y : V} {σ : L2.St} {H : Hp} {Q : VK} (f : scal x y = true) (k : ∀ H1, Ex H H1 → Q (.bl (decide (x = y))) H1) : tC y σ H fun z H2 => rEq x z H2 Q := (rv_eq f) H (Ex.refl H) _ k
theorem s_andT {t1 t2 : TT} {A B : TS} {D : Ends} {σ : L2.St} {H : Hp} {b1 : Bool} (h1 : EvT t1 σ H b1) (hF : b1 = false → ∀ H1, Ex H H1 → B D σ H1) (hT : b1 = true → ∀ H1, Ex H H1 → t2 σ H1 fun b H2 => if b = true then A D σ H2 else B D σ H2) : tIfS (tAnd t1 t2) A B D σ H :=
  h1 H (Ex.refl H) _ fun H1 e1 => by
    cases b1
    · exact hF rfl H1 e1
    · exact hT rfl H1 e1
theorem q_catL2 {ta tb tc : TE} {g : TG} {D : Ends} {σ : L2.St} {H : Hp} (h : ta σ H fun x H1 => tb σ H1 fun y H2 => [x, y].length ≤ sizeLine ∧ ∀ p, H2 p = none → tc σ (upd H2 p (.lst [x, y])) fun z H3 => rCat (.ref p) z H3 fun v H4 => g v σ H4 D.nx) : tAsg (tOp rCat (tLst (tCons ta (tCons tb tNil))) tc) g D σ H := h
theorem cutV_mid (l : List V) (x y : Nat) (h : y ≤ l.length) (h2 : x ≤ y) : cutV l (some (x : Int)) (some (y : Int)) = (l.drop x).take (y - x) := by
  unfold cutV
  rw [HT.sIx_nat, HT.sIx_nat, Nat.min_eq_left (by omega), Nat.min_eq_left (by omega)]
/-- the entries of a table: numbers and rows -/
noncomputable def mkRc (x : Int × (Addr × List Str)) : Rc := ⟨x.1, x.2.1, x.2.1, x.2.2, due x.2.2 (ord_any (x.2.2.map bare)).choose⟩
theorem mkRc_row {k : Nat} {x : Int × (Addr × List Str)} (h : RowL k x.2.2) (hk : k ≤ 6) : RowD (mkRc x).R (mkRc x).D := ⟨h.mono hk, _, (ord_any (x.2.2.map bare)).choose_spec, rfl⟩
theorem row_names {k : Nat} {L : List Str} (ok : ∀ z ∈ L, isName z = true) (nd : L.Nodup) (len : L.length ≤ k) : RowL k L := by
  have e : L.map bare = L := by
    conv => rhs; rw [← List.map_id L]
    exact List.map_congr_left fun z hz => bare_no (name_dash (ok z hz))
  exact ⟨len, fun z hz => name_lit (ok z hz), by rw [e]; exact nd⟩
end
section
open Evl
theorem ok_law (T : Txt P K mg) : FnOk P w K mg base CX0 20 T.f_law T.d_law ["_law_script"] (spLaw K) := by
  refine T.F_law.ok sc_law (fun vs H Q E h => ?_) (fun cdv A outer s H vs Q E hr h => ?_)
  · obtain ⟨a, ns0, rfl, _⟩ := h
    rfl
  · obtain ⟨a, ns0, rfl, hS, q⟩ := h
    refine ⟨_, (pss_cons (ps_set (i := 1) sc_law.nd rfl (.inr rfl) (pe_call (ok__law_source T) (hr.mono (by decide)) rfl T.g__law_source T.F__law_source.kp T.b__law_source .nil pass0 (pa_cons (pv 0) pa_nil)))
      (pss_cons (ps_set (i := 2) sc_law.nd rfl (.inr rfl) (pe_call (ok__law_names T) (hr.mono (by decide)) rfl T.g__law_names T.F__law_names.kp T.b__law_names .nil pass0 (pa_cons (pv 1) (pa_cons pe_int pa_nil))))
      (pss_cons (ps_set (i := 3) sc_law.nd rfl (.inl rfl) (pe_op op_add pe_int (pe_call (okL__law_take T) (hr.mono (by decide)) rfl T.g__law_take T.F__law_take.kp T.b__law_take .nil pass0 (pa_cons (pv 1) (pa_cons pe_int pa_nil)))))
      (Evl.pss_cut (ps_if (pt_cmpR op_eq (pe_call (okL__law_take T) (hr.mono (by decide)) rfl T.g__law_take T.F__law_take.kp T.b__law_take .nil pass0 (pa_cons (pv 1) (pa_cons pe_int pa_nil))) pe_int (nomark _)) (pss_one (ps_set (i := 3) sc_law.nd rfl (.inl rfl) pe_int)) pss_nil)
      (pss_cons (ps_setLc (te := tCall spRow [] E0 (tCons (tVar 1) (tCons (tSl (rSlL K) (tVar 2) tNoPart (tPart (tC (.int 12)))) (tCons (tC (.int 3)) tNil)))) (i := 4) (own := [("_law_k", 7)]) (g := gName 7) (by rfl) sc_law.nd rfl rfl (sw_true rfl rfl rfl (by decide +kernel)) (pi_range1 rfl T.n_range (pa_cons (pv 3) pa_nil)) (blkOk_by (own := [("_law_k", 7)]) (N := N_law) (sc := defScope s_law) (by decide +kernel)) (fun _ _ _ _ _ => pg_name (i := 7) sc_law.nd rfl (Or.inl rfl)) (fun _ _ _ _ _ => pts_nil) (fun _ _ _ _ _ => (pe_call (ok__law_row T) (hr.mono (by decide)) rfl T.g__law_row T.F__law_row.kp T.b__law_row .nil pass0 (pa_cons (pv 1) (pa_cons (pe_slice sl_list (pv 2) po_none (po_some pe_int)) (pa_cons pe_int pa_nil))))))
      (Evl.pss_cut (ps_if (PW.pt (pw_and (pt_cmpR op_gt (pv 3) pe_int (nomark _)) (pw_and1 (pt_cmpR op_eq (pe_call (okL__law_take T) (hr.mono (by decide)) rfl T.g__law_take T.F__law_take.kp T.b__law_take .nil pass0 (pa_cons (pv 1) (pa_cons pe_int pa_nil))) pe_int (nomark _))))) (pss_one (ps_set (i := 4) sc_law.nd rfl (.inl rfl) (pe_op op_cat (pe_lst (pa_cons (pe_slice sl_list (pv 2) po_none (po_some pe_int)) (pa_cons (pe_slice sl_list (pv 2) (po_some pe_int) (po_some pe_int)) pa_nil))) (pe_slice sl_list (pv 4) (po_some pe_int) po_none)))) pss_nil)
      (pss_cons (ps_set (i := 5) sc_law.nd rfl (.inl rfl) (pe_call (ok__law_numbers T) (hr.mono (by decide)) rfl T.g__law_numbers T.F__law_numbers.kp T.b__law_numbers .nil pass0 (pa_cons (pv 1) (pa_cons (pv 3) pa_nil))))
      (pss_cons (ps_set (i := 6) sc_law.nd rfl (.inl rfl) (pe_bm PySem.F.plainAttrs_str PySem.F.slot_str_join PySem.F.type_str_join mt_join pe_str (pa_cons (pe_call (ok__law_spoilt T) (hr.mono (by decide)) rfl T.g__law_spoilt T.F__law_spoilt.kp T.b__law_spoilt .nil pass0 (pa_cons (pv 1) (pa_cons (pv 5) (pa_cons (pv 4) (pa_cons (pv 2) pa_nil))))) pa_nil)))
      (pss_one (ps_ret (pe_and (pe_call (ok__law_right T) (hr.mono (by decide)) rfl T.g__law_right T.F__law_right.kp T.b__law_right .nil pass0 (pa_cons (pv 6) pa_nil)) (pe_and (pe_call (ok__law_right T) (hr.mono (by decide)) rfl T.g__law_right T.F__law_right.kp T.b__law_right .nil pass0 (pa_cons (pe_bm PySem.F.plainAttrs_str PySem.F.slot_str_join PySem.F.type_str_join mt_join pe_str (pa_cons (pe_call (ok__law_lines T) (hr.mono (by decide)) rfl T.g__law_lines T.F__law_lines.kp T.b__law_lines .nil pass0 (pa_cons (pv 5) (pa_cons (pv 4) pa_nil))) pa_nil)) pa_nil)) (pe_one (pe_call (ok__law_right T) (hr.mono (by decide)) rfl T.g__law_right T.F__law_right.kp T.b__law_right .nil pass0 (pa_cons (pe_op op_add_str (pv 6) pe_str) pa_nil))))))))))))))), ?_⟩
    refine ⟨.ref a, rfl, a, ns0, rfl, hS, fun H1 u S1 nu0 same => ?_⟩
    obtain ⟨l, ns, SL⟩ := S1
    dsimp only [gName]
    refine ⟨.ref u, rfl, u, l, ns, _, rfl, SL, by decide, by decide, fun H3 pn nms n3 S3 B3 h3 cnt ok nd => ?_⟩
    dsimp only [gName]
    have lnm : nms.length = 14 := cnt
    have pnu := (srl_off SL n3).1
    clear same
    -- how many
    refine q_asgRaw ⟨.ref u, rfl, u, 6, l, ns, rfl, S3, by decide, by decide, fun H4 m0 m00 m01 S4 B4 => ⟨_, _, rfl, rfl, ?_⟩⟩
    dsimp only [gName]
    have h4 := B4 _ _ pnu h3
    refine ⟨fun σ' H' => ∃ m : Nat, 1 ≤ m ∧ m ≤ 24 ∧ σ' = [some (V.ref a), some (.ref u), some (.ref pn), some (.int (m : Int)), none, none, none, none] ∧ SrcL H' u l ns ∧ H' pn = some (.lst (nms.map V.str)), ?_, ?_⟩
    · refine ⟨.ref u, rfl, u, 8, l, ns, rfl, S4, by decide, by decide, fun H5 v v0 v1 S5 B5 => ?_⟩
      have h5 := B5 _ _ pnu h4
      refine tc_eq rfl fun H6 e6 => ⟨_, rfl, ?_⟩
      have S6 := srl_ex S5 e6
      have h6 := e6 _ _ h5
      dsimp only
      by_cases c : V.int v = V.int 1
      · rw [if_pos (decide_eq_true c)]
        refine s_asg (v := .int 24) ev_c fun H7 e7 => ⟨24, by decide, by decide, rfl, srl_ex S6 e7, e7 _ _ h6⟩
      · rw [if_neg (by rw [decide_eq_false c]; simp)]
        refine ⟨(1 + m0).toNat, by omega, by omega, ?_, S6, h6⟩
        rw [Int.toNat_of_nonneg (by omega)]
        rfl
    rintro σ' H5 ⟨m, m1, m24, rfl, S5, h5⟩
    clear S4 B4 h4 S3 B3 h3 n3
    -- the rows
    refine q_asgRaw ⟨_, rfl, (m : Int), rfl, by omega, by omega, fun D nD => ?_⟩
    have Du := srl_off S5 nD
    have pD : pn ≠ D := fun e => by rw [← e, h5] at nD; cases nD
    have I0 : RwI H5 u l ns (nms.take 12) nms pn 3 (upd H5 D (.lst [])) D [] := ⟨srl_new S5 nD, fun c o n h => by rw [upd_ne (ne_of_none h nD)]; exact h, by rw [upd_ne pD]; exact h5, nD, pD, upd_same, ⟨(fun x mx => nomatch mx), (fun x mx => nomatch mx), (fun x mx => nomatch mx)⟩, (fun x mx => nomatch mx)⟩
    refine lc_range (lo := 0) (n := (m : Int).toNat) (fun i H' => ∃ rs, RwI H5 u l ns (nms.take 12) nms pn 3 H' D rs ∧ rs.length = i) ⟨[], I0, rfl⟩ ?_ ?_
    · rintro i H6 hi ⟨rs, I, len⟩
      refine ⟨rfl, ?_⟩
      unfold tYes
      dsimp only
      rw [if_pos rfl]
      refine ⟨.ref u, rfl, ?_⟩
      refine (el_take (K := K) (k := 12) (ev_var rfl) ev_c I.turned) H6 (Ex.refl H6) _ fun sl H7 nsl e7 hsl => ?_
      rw [← List.map_take] at hsl
      have slu := (srl_off I.src nsl).1
      have I := I.ex e7
      refine ⟨u, l, ns, sl, nms.take 12, 3, rfl, by decide, I.src, hsl, slu, by rw [List.length_take]; omega, by rw [List.length_take]; omega, fun z hz => ok z (List.mem_of_mem_take hz), fun H8 r L nr S8 B8 hr row sub => ?_⟩
      exact ⟨_, B8 _ _ Du.1 I.at_, by rw [List.length_map]; exact sz_lt (by omega), rs ++ [(r, L)], I.push S5 pnu S8 B8 nr hr row sub, by rw [List.length_append, len]; rfl⟩
    rintro H6 ⟨rs, I, lrs⟩
    dsimp only [gName]
    have lrs : rs.length = m := by omega
    have Du := Du.1
    have S6 := I.src
    have row6 : ∀ x ∈ rs, H6 x.1 = some (.lst (x.2.map V.str)) ∧ x.1 ≠ u := fun x mx => ⟨(I.rows.at_ x mx).1, (srl_off S5 (I.rows.at_ x mx).2).1⟩
    have rowR := I.rows.row
    have hD6 := I.at_
    have h6 := I.turned
    clear I I0 nD hS
    -- two wide rows
    refine ⟨fun σ' H' => ∃ (D : Addr) (rs : List (Addr × List Str)), σ' = [some (V.ref a), some (.ref u), some (.ref pn), some (.int (m : Int)), some (.ref D), none, none, none] ∧ SrcL H' u l ns ∧ H' pn = some (.lst (nms.map V.str)) ∧ H' D = some (.lst (rs.map fun x => V.ref x.1)) ∧ D ≠ u ∧ (∀ x ∈ rs, H' x.1 = some (.lst (x.2.map V.str)) ∧ x.1 ≠ u) ∧ (∀ x ∈ rs, RowL 6 x.2) ∧ rs.length = m, ?_, ?_⟩
    · have keep : ∀ {H' : Hp}, Ex H6 H' → _ := fun {H'} e => (⟨D, rs, rfl, srl_ex S6 e, e _ _ h6, e _ _ hD6, Du, fun x mx => ⟨e _ _ (row6 x mx).1, (row6 x mx).2⟩, fun x mx => (rowR x mx).mono (by decide), lrs⟩ : ∃ (D : Addr) (rs : List (Addr × List Str)), [some (V.ref a), some (.ref u), some (.ref pn), some (.int (m : Int)), some (V.ref _), none, none, none] = [some (V.ref a), some (.ref u), some (.ref pn), some (.int (m : Int)), some (V.ref D), none, none, none] ∧ SrcL H' u l ns ∧ H' pn = some (.lst (nms.map V.str)) ∧ H' D = some (.lst (rs.map fun x => V.ref x.1)) ∧ D ≠ u ∧ (∀ x ∈ rs, H' x.1 = some (.lst (x.2.map V.str)) ∧ x.1 ≠ u) ∧ (∀ x ∈ rs, RowL 6 x.2) ∧ rs.length = m)
      refine s_andT (b1 := decide ((1 : Int) < (m : Int))) (et_test (ev_op (ev_var rfl) ev_c (fun H1 _ Q q => ⟨_, _, rfl, rfl, q H1 (Ex.refl H1)⟩))) (fun _ H8 e8 => keep e8) (fun cm H8 e8 => ?_)
      have cm : 2 ≤ m := by have := of_decide_eq_true cm; omega
      have h8 := e8 _ _ h6
      refine ⟨.ref u, rfl, u, 3, l, ns, rfl, srl_ex S6 e8, by decide, by decide, fun H9 v v0 v1 S9 B9 => ?_⟩
      have row9 : ∀ x ∈ rs, H9 x.1 = some (.lst (x.2.map V.str)) ∧ x.1 ≠ u := fun x mx => ⟨B9 _ _ (row6 x mx).2 (e8 _ _ (row6 x mx).1), (row6 x mx).2⟩
      have hD9 := B9 _ _ Du (e8 _ _ hD6)
      have h9 := B9 _ _ pnu h8
      refine tc_eq rfl fun Ha ea => ⟨_, rfl, ?_⟩
      have Sa := srl_ex S9 ea
      dsimp only
      by_cases c : V.int v = V.int 1
      · rw [if_pos (decide_eq_true c)]
        refine q_catL2 ((el_take (K := K) (k := 6) (ev_var rfl) ev_c (ea _ _ h9)) Ha (Ex.refl Ha) _ fun p1 Hb nb eb hb => ?_)
        refine (el_cutab (K := K) (x := 6) (y := 12) (M := (nms.drop 6).take 6) (ev_var rfl) ((ea.trans eb) _ _ h9) ev_c ev_c (by rw [cutV_mid _ _ _ (by rw [List.length_map]; omega) (by decide), List.map_take, List.map_drop])) Hb (Ex.refl Hb) _ fun p2 Hc nc ec hc => ⟨(show 2 ≤ sizeLine by decide), fun p3 n3 => ?_⟩
        have ed : Ex Hc (upd Hc p3 (.lst [.ref p1, .ref p2])) := Ex.new n3
        refine (el_drop (K := K) (k := 2) (ev_var rfl) ev_c ((((ea.trans eb).trans ec).trans ed) _ _ hD9)) _ (Ex.refl _) _ fun p4 He ne ee he => ⟨p3, p4, _, _, rfl, rfl, ee _ _ upd_same, he, by rw [List.length_drop, List.length_map]; exact Nat.le_of_lt (sz_lt (by show 2 + (rs.length - 2) < 100000; omega)), fun p5 n5 => ?_⟩
        have all := ((eb.trans ec).trans ed).trans ee
        have Sf : SrcL (upd He p5 (.lst ([V.ref p1, V.ref p2] ++ (rs.map fun x => V.ref x.1).drop 2))) u l ns := srl_new (srl_ex Sa all) n5
        have e5 : Ex He (upd He p5 (.lst ([.ref p1, .ref p2] ++ (rs.map fun x => V.ref x.1).drop 2))) := Ex.new n5
        have ex := all.trans e5
        have r1 : p1 ≠ u := (srl_off Sa nb).1
        have r2 : p2 ≠ u := (srl_off (srl_ex Sa eb) nc).1
        refine ⟨p5, (p1, nms.take 6) :: (p2, (nms.drop 6).take 6) :: rs.drop 2, rfl, Sf, (ea.trans ex) _ _ h9, ?_, (srl_off (srl_ex Sa all) n5).1, fun x mx => ?_, fun x mx => ?_, by rw [List.length_cons, List.length_cons, List.length_drop]; omega⟩
        · rw [upd_same]
          show some (HO.lst (V.ref p1 :: V.ref p2 :: (rs.map fun x => V.ref x.1).drop 2)) = _
          rw [← List.map_drop]
          rfl
        · rcases List.mem_cons.mp mx with rfl | mx
          · refine ⟨?_, r1⟩
            rw [(((ec.trans ed).trans ee).trans e5) _ _ hb, List.map_take]
          · rcases List.mem_cons.mp mx with rfl | mx
            · exact ⟨((ed.trans ee).trans e5) _ _ hc, r2⟩
            · have z := row9 x (List.mem_of_mem_drop mx)
              exact ⟨(ea.trans ex) _ _ z.1, z.2⟩
        · rcases List.mem_cons.mp mx with rfl | mx
          · exact row_names (fun z hz => ok z (List.mem_of_mem_take hz)) (nd.sublist (List.take_sublist _ _)) (by rw [List.length_take]; omega)
          · rcases List.mem_cons.mp mx with rfl | mx
            · exact row_names (fun z hz => ok z (List.mem_of_mem_drop (List.mem_of_mem_take hz))) (nd.sublist ((List.take_sublist _ _).trans (List.drop_sublist _ _))) (by rw [List.length_take]; omega)
            · exact (rowR x (List.mem_of_mem_drop mx)).mono (by decide)
      · rw [if_neg (by rw [decide_eq_false c]; simp)]
        exact ⟨D, rs, rfl, Sa, ea _ _ h9, ea _ _ hD9, Du, fun x mx => ⟨ea _ _ (row9 x mx).1, (row9 x mx).2⟩, fun x mx => (rowR x mx).mono (by decide), lrs⟩
    rintro σ' H7 ⟨D2, rs2, rfl, S7, h7, hD7, D2u, row7, rowR7, lrs7⟩
    clear row6 rowR hD6 h6 S6 S5 h5 pD Du lrs
    -- the numbers
    refine q_asgRaw ⟨.ref u, rfl, _, rfl, u, l, ns, m, rfl, by omega, S7, fun H8 ln nl nln S8 B8 hln lnl asc rng => ?_⟩
    dsimp only [gName]
    have lnu := (srl_off S7 nln).1
    have hD8 := B8 _ _ D2u hD7
    have h8 := B8 _ _ pnu h7
    have row8 : ∀ x ∈ rs2, H8 x.1 = some (.lst (x.2.map V.str)) ∧ x.1 ≠ u := fun x mx => ⟨B8 _ _ (row7 x mx).2 (row7 x mx).1, (row7 x mx).2⟩
    have z1 : (nl.zip rs2).map (·.1) = nl := List.map_fst_zip (by omega)
    have z2 : (nl.zip rs2).map (·.2) = rs2 := List.map_snd_zip (by omega)
    have zl : (nl.zip rs2).length = m := by rw [List.length_zip]; omega
    have zm : ∀ x ∈ nl.zip rs2, x.2 ∈ rs2 := fun x mx => by
      have z := List.mem_map.mpr ⟨x, mx, (rfl : x.2 = x.2)⟩
      rwa [z2] at z
    have zn : ∀ x ∈ nl.zip rs2, x.1 ∈ nl := fun x mx => by
      have z := List.mem_map.mpr ⟨x, mx, (rfl : x.1 = x.1)⟩
      rwa [z1] at z
    have hnum : ((nl.zip rs2).map mkRc).map Rc.n = nl := by
      conv => rhs; rw [← z1]
      rw [List.map_map]
      rfl
    have hra : (((nl.zip rs2).map mkRc).map fun e => V.ref e.ra) = rs2.map fun x => V.ref x.1 := by
      conv => rhs; rw [← z2]
      rw [List.map_map, List.map_map]
      rfl
    have hmem : ∀ e ∈ (nl.zip rs2).map mkRc, ∃ x ∈ nl.zip rs2, mkRc x = e := fun e me => by
      obtain ⟨x, mx, h⟩ := List.mem_map.mp me
      exact ⟨x, mx, h⟩
    have hrow : ∀ e ∈ (nl.zip rs2).map mkRc, RowD e.R e.D ∧ (1 ≤ e.n ∧ e.n ≤ 999) ∧ H8 e.ra = some (.lst (e.R.map V.str)) ∧ e.ra ≠ u := fun e me => by
      obtain ⟨x, mx, rfl⟩ := hmem e me
      have rg := rng _ (zn x mx)
      exact ⟨mkRc_row (rowR7 _ (zm x mx)) (by decide), ⟨rg.1, by have := rg.2; show x.1 ≤ 999; omega⟩, row8 _ (zm x mx)⟩
    have les : ((nl.zip rs2).map mkRc).length = m := by rw [List.length_map, zl]
    obtain ⟨es, hes⟩ : ∃ es, es = (nl.zip rs2).map mkRc := ⟨_, rfl⟩
    rw [← hes] at hnum hra hrow les
    have s6 : sumN es ≤ 6 * es.length := sumN_k fun e me => (hrow e me).1.1.few
    have o : EsOk es 999 := ⟨by rw [hnum]; exact asc, fun e me => (hrow e me).2.1, fun e me => (hrow e me).1, by omega, by show sumN es ≤ 150; omega, by decide, by decide⟩
    have t8 : Tt u H8 ln D2 es := ⟨⟨by rw [hnum]; exact hln, by rw [hra]; exact hD8, fun e me => (hrow e me).2.2.1⟩, lnu, D2u, fun e me => (hrow e me).2.2.2⟩
    have nl76 : ∀ z ∈ es.map lineE, Nl 76 z := fun z hz => by
      obtain ⟨e, me, rfl⟩ := List.mem_map.mp hz
      have h := hrow e me
      exact line_nl (k := e.n.toNat) (by rw [Int.toNat_of_nonneg (by omega)]) (by have := h.2.1; omega) h.1
    clear hes hnum hra hrow hmem zn zm zl z2 z1 row8 hD8 hln asc rng row7 rowR7 hD7 h7 S7 B8 nln lrs7
    have l1 : ("\n" : Str).length = 1 := by decide
    -- the spoilt text
    refine q_asgRaw ⟨rfl, .ref u, rfl, .ref ln, rfl, .ref D2, rfl, .ref pn, rfl, u, l, ns, ln, D2, pn, es, 999, nms, rfl, S8, t8, o, by omega, h8, pnu, lnm, ok, fun H9 p L np hp Lz S9 B9 => ⟨"\n", p, L, rfl, rfl, .inl (SqL.of hp), by rw [l1]; have := Lz.tot; have := Lz.few; omega, ?_⟩⟩
    dsimp only [gName]
    have t9 := t8.but B9
    have Lp := lns_nl (m := 200) nl76 (by decide) (by rw [List.length_map]; omega)
    have tz := Lz.tz
    generalize Txt.join "\n" L = z at tz
    refine ⟨.str z, rfl, z, rfl, tz.bound (by decide) (by decide) (by decide), fun Ha ea => ⟨_, rfl, iteT ?_⟩⟩
    refine ⟨rfl, .ref ln, rfl, .ref D2, rfl, ln, D2, es, 999, rfl, t9.tab.mono ea, o, fun p2 Hb n2 e2 h2 => ⟨"\n", p2, es.map lineE, rfl, rfl, .inl (SqL.of h2), by rw [l1]; have := Lp.tot; have := Lp.few; omega, _, rfl, Lp.tz.bound (by decide) (by decide) (by decide), fun Hc ec => ⟨_, rfl, iteT ?_⟩⟩⟩
    refine ⟨.str z, rfl, z, "\n", rfl, rfl, ?_, _, rfl, tz.nl.bound (by decide) (by decide) (by decide), fun Hd ed => q.2 _⟩
    have zl : z.cps.toList.length = z.length := by simp [Str.length]
    have := tz.len
    rw [l1]
    exact sz_lt (by omega)
end
end
theorem all_mk {l : PySem.W.OpenLaw} {w : World} {K : PySem.W.Frag} {h : Heap} {mg : Str → Option Value} {fa : Addr} (X : K.In h) (G : h.Ns mainGlobals mg) (hfa : mg "law" = some (.ref fa))
    {C_Clause C_Book f0 f1 f2 f3 f4 f5 f6 f7 f8 f9 f10 pp10 f11 f12 f13 f14 f15 f16 f17 f18 f19 f20 f21 f22 sp22 f23 pp23 f24 pp24 f25 f26 f27 f28 f29 f30 f31 f32 f33 f34 f35 f36 f37 f38 f39 f40 f41 f42 f43 f44 f45 f46 f47 f48 f49 f50 f51 f52 f53 f54 f55 f56 f57 f58 f59 f60 f61 f62 C_HornError C_BadLiteral i_BadLiteral cda1 cc1 C_BadText i_BadText cda2 cc2 C_BothSigns i_BothSigns cda3 cc3 C_TooMany i_TooMany cda4 cc4 C_NoClause i_NoClause cda5 cc5 C_BadNumber i_BadNumber cda6 cc6 : Addr} {od0 an0 od1 an1 od2 an2 od3 an3 od4 an4 od5 an5 od6 an6 od7 an7 od8 an8 od9 an9 od10 an10 od11 an11 od12 an12 od13 an13 od14 an14 od15 an15 od16 an16 od17 an17 od18 an18 od19 an19 od20 an20 od21 an21 od22 an22 od23 an23 od24 an24 od25 an25 od26 an26 od27 an27 od28 an28 od29 an29 od30 an30 od31 an31 od32 an32 od33 an33 od34 an34 od35 an35 od36 an36 od37 an37 od38 an38 od39 an39 od40 an40 od41 an41 od42 an42 od43 an43 od44 an44 od45 an45 od46 an46 od47 an47 od48 an48 od49 an49 od50 an50 od51 an51 od52 an52 od53 an53 od54 an54 od55 an55 od56 an56 od57 an57 od58 an58 od59 an59 od60 an60 od61 an61 od62 an62 : Option Addr} {sl0 sl1 sl2 sl3 sl4 sl5 sl6 sl7 sl8 sl9 sl10 sl11 sl12 sl13 sl14 sl15 sl16 sl17 sl18 sl19 sl20 sl21 sl22 sl23 sl24 sl25 sl26 sl27 sl28 sl29 sl30 sl31 sl32 sl33 sl34 sl35 sl36 sl37 sl38 sl39 sl40 sl41 sl42 sl43 sl44 sl45 sl46 sl47 sl48 sl49 sl50 sl51 sl52 sl53 sl54 sl55 sl56 sl57 sl58 sl59 sl60 sl61 sl62 : Array (Option Value)} {oc0 kV0 dc0 pm0 cd0 ct0 oc1 kV1 dc1 pm1 cd1 ct1 oc2 kV2 dc2 pm2 cd2 ct2 oc3 kV3 dc3 pm3 cd3 ct3 oc4 kV4 dc4 pm4 cd4 ct4 oc5 kV5 dc5 pm5 cd5 ct5 oc6 kV6 dc6 pm6 cd6 ct6 oc7 kV7 dc7 pm7 cd7 ct7 oc8 kV8 dc8 pm8 cd8 ct8 oc9 kV9 dc9 pm9 cd9 ct9 oc10 kV10 dc10 pm10 cd10 ct10 oc11 kV11 dc11 pm11 cd11 ct11 oc12 kV12 dc12 pm12 cd12 ct12 oc13 kV13 dc13 pm13 cd13 ct13 oc14 kV14 dc14 pm14 cd14 ct14 oc15 kV15 dc15 pm15 cd15 ct15 oc16 kV16 dc16 pm16 cd16 ct16 oc17 kV17 dc17 pm17 cd17 ct17 oc18 kV18 dc18 pm18 cd18 ct18 oc19 kV19 dc19 pm19 cd19 ct19 oc20 kV20 dc20 pm20 cd20 ct20 oc21 kV21 dc21 pm21 cd21 ct21 oc22 kV22 dc22 pm22 cd22 ct22 oc23 kV23 dc23 pm23 cd23 ct23 oc24 kV24 dc24 pm24 cd24 ct24 oc25 kV25 dc25 pm25 cd25 ct25 oc26 kV26 dc26 pm26 cd26 ct26 oc27 kV27 dc27 pm27 cd27 ct27 oc28 kV28 dc28 pm28 cd28 ct28 oc29 kV29 dc29 pm29 cd29 ct29 oc30 kV30 dc30 pm30 cd30 ct30 oc31 kV31 dc31 pm31 cd31 ct31 oc32 kV32 dc32 pm32 cd32 ct32 oc33 kV33 dc33 pm33 cd33 ct33 oc34 kV34 dc34 pm34 cd34 ct34 oc35 kV35 dc35 pm35 cd35 ct35 oc36 kV36 dc36 pm36 cd36 ct36 oc37 kV37 dc37 pm37 cd37 ct37 oc38 kV38 dc38 pm38 cd38 ct38 oc39 kV39 dc39 pm39 cd39 ct39 oc40 kV40 dc40 pm40 cd40 ct40 oc41 kV41 dc41 pm41 cd41 ct41 oc42 kV42 dc42 pm42 cd42 ct42 oc43 kV43 dc43 pm43 cd43 ct43 oc44 kV44 dc44 pm44 cd44 ct44 oc45 kV45 dc45 pm45 cd45 ct45 oc46 kV46 dc46 pm46 cd46 ct46 oc47 kV47 dc47 pm47 cd47 ct47 oc48 kV48 dc48 pm48 cd48 ct48 oc49 kV49 dc49 pm49 cd49 ct49 oc50 kV50 dc50 pm50 cd50 ct50 oc51 kV51 dc51 pm51 cd51 ct51 oc52 kV52 dc52 pm52 cd52 ct52 oc53 kV53 dc53 pm53 cd53 ct53 oc54 kV54 dc54 pm54 cd54 ct54 oc55 kV55 dc55 pm55 cd55 ct55 oc56 kV56 dc56 pm56 cd56 ct56 oc57 kV57 dc57 pm57 cd57 ct57 oc58 kV58 dc58 pm58 cd58 ct58 oc59 kV59 dc59 pm59 cd59 ct59 oc60 kV60 dc60 pm60 cd60 ct60 oc61 kV61 dc61 pm61 cd61 ct61 oc62 kV62 dc62 pm62 cd62 ct62 : Value} {tk0 tk1 tk2 tk3 cvt_Clause_LIMIT cvt_Book_LIMIT cvt_Book_NAMES cvt_Book_NUMBERS : Tok} {prest10 srest22 prest23 prest24 : List Value}
    {n_1 q_1 : Str} {N_1 : Addr} {bs_1 bm_1 : List Value} {sn_1 : List Str} {sub_1 : List Value} {ab_1 : Bool} {col_1 : Option Bool} {dd_1 : Option Addr} {w0_1 w1_1 w2_1 w3_1 w5_1 : Option Value} {oce_1 dce_1 pme_1 cte_1 ccl_1 cl_1 : Value} {ode_1 ane_1 cdd_1 cld_1 : Option Addr} {sle_1 ccs_1 csl_1 : Array (Option Value)} {vs_1 : Array Value} {file_1 : Str} {tf_1 : Tok}
    {n_2 q_2 : Str} {N_2 : Addr} {bs_2 bm_2 : List Value} {sn_2 : List Str} {sub_2 : List Value} {ab_2 : Bool} {col_2 : Option Bool} {dd_2 : Option Addr} {w0_2 w1_2 w2_2 w3_2 w5_2 : Option Value} {oce_2 dce_2 pme_2 cte_2 ccl_2 cl_2 : Value} {ode_2 ane_2 cdd_2 cld_2 : Option Addr} {sle_2 ccs_2 csl_2 : Array (Option Value)} {vs_2 : Array Value} {file_2 : Str} {tf_2 : Tok}
    {n_3 q_3 : Str} {N_3 : Addr} {bs_3 bm_3 : List Value} {sn_3 : List Str} {sub_3 : List Value} {ab_3 : Bool} {col_3 : Option Bool} {dd_3 : Option Addr} {w0_3 w1_3 w2_3 w3_3 w5_3 : Option Value} {oce_3 dce_3 pme_3 cte_3 ccl_3 cl_3 : Value} {ode_3 ane_3 cdd_3 cld_3 : Option Addr} {sle_3 ccs_3 csl_3 : Array (Option Value)} {vs_3 : Array Value} {file_3 : Str} {tf_3 : Tok}
    {n_4 q_4 : Str} {N_4 : Addr} {bs_4 bm_4 : List Value} {sn_4 : List Str} {sub_4 : List Value} {ab_4 : Bool} {col_4 : Option Bool} {dd_4 : Option Addr} {w0_4 w1_4 w2_4 w3_4 w5_4 : Option Value} {oce_4 dce_4 pme_4 cte_4 ccl_4 cl_4 : Value} {ode_4 ane_4 cdd_4 cld_4 : Option Addr} {sle_4 ccs_4 csl_4 : Array (Option Value)} {vs_4 : Array Value} {file_4 : Str} {tf_4 : Tok}
    {n_5 q_5 : Str} {N_5 : Addr} {bs_5 bm_5 : List Value} {sn_5 : List Str} {sub_5 : List Value} {ab_5 : Bool} {col_5 : Option Bool} {dd_5 : Option Addr} {w0_5 w1_5 w2_5 w3_5 w5_5 : Option Value} {oce_5 dce_5 pme_5 cte_5 ccl_5 cl_5 : Value} {ode_5 ane_5 cdd_5 cld_5 : Option Addr} {sle_5 ccs_5 csl_5 : Array (Option Value)} {vs_5 : Array Value} {file_5 : Str} {tf_5 : Tok}
    {n_6 q_6 : Str} {N_6 : Addr} {bs_6 bm_6 : List Value} {sn_6 : List Str} {sub_6 : List Value} {ab_6 : Bool} {col_6 : Option Bool} {dd_6 : Option Addr} {w0_6 w1_6 w2_6 w3_6 w5_6 : Option Value} {oce_6 dce_6 pme_6 cte_6 ccl_6 cl_6 : Value} {ode_6 ane_6 cdd_6 cld_6 : Option Addr} {sle_6 ccs_6 csl_6 : Array (Option Value)} {vs_6 : Array Value} {file_6 : Str} {tf_6 : Tok}
    (cg0 : PySem.W.nsIn K mainGlobals "Clause" = some (some (.ref C_Clause)))
    (cpg0 : PySem.W.plainGet K C_Clause Str.empty = true)
    (chd0 : PySem.W.hasDictIn K C_Clause = true)
    (cpo0 : PySem.W.plainOver K C_Clause = true)
    (csa0 : PySem.W.findIn K (.ref C_Clause) "__setattr__" = some (some (.builtin "object.__setattr__")))
    (cmi0 : PySem.W.makesIn K C_Clause = true)
    (ckc0 : PySem.W.keepIn K (.ref C_Clause) = true)
    (cha0 : PySem.W.findIn K (.ref C_Clause) "__class__" = some (some (.builtin "object.__class__")))
    (cmo0 : PySem.W.mroIn K C_Clause (.type "object") = some true)
    (cme0 : PySem.W.kitOne K (.ref C_Clause) (.ref C_Clause) = some true)
    (cna0_0 : PySem.W.findIn K (.ref C_Clause) "literals" = some none)
    (cg1 : PySem.W.nsIn K mainGlobals "Book" = some (some (.ref C_Book)))
    (cpg1 : PySem.W.plainGet K C_Book Str.empty = true)
    (chd1 : PySem.W.hasDictIn K C_Book = true)
    (cpo1 : PySem.W.plainOver K C_Book = true)
    (csa1 : PySem.W.findIn K (.ref C_Book) "__setattr__" = some (some (.builtin "object.__setattr__")))
    (cmi1 : PySem.W.makesIn K C_Book = true)
    (ckc1 : PySem.W.keepIn K (.ref C_Book) = true)
    (cha1 : PySem.W.findIn K (.ref C_Book) "__class__" = some (some (.builtin "object.__class__")))
    (cmo1 : PySem.W.mroIn K C_Book (.type "object") = some true)
    (cme1 : PySem.W.kitOne K (.ref C_Book) (.ref C_Book) = some true)
    (cna1_0 : PySem.W.findIn K (.ref C_Book) "_placed" = some none)
    (cna1_1 : PySem.W.findIn K (.ref C_Book) "_last" = some none)
    (om_Book : mro2 K C_Book = true)
    (om_Clause : mro2 K C_Clause = true)
    (ckt0 : PySem.W.kitOne K (.type "str") (.ref C_Clause) = some false)
    (cvr_Clause : PySem.W.readsIn K C_Clause (.type "type") = true)
    (cvg_Clause : PySem.W.specialIn K (.ref C_Clause) "__getattribute__" = some (some (.builtin "type.__getattribute__")))
    (cvf_Clause_LIMIT : PySem.W.findCls K (.ref C_Clause) (.type "type") "LIMIT" = some (.val (.int 6 cvt_Clause_LIMIT)))
    (cvr_Book : PySem.W.readsIn K C_Book (.type "type") = true)
    (cvg_Book : PySem.W.specialIn K (.ref C_Book) "__getattribute__" = some (some (.builtin "type.__getattribute__")))
    (cvf_Book_LIMIT : PySem.W.findCls K (.ref C_Book) (.type "type") "LIMIT" = some (.val (.int 24 cvt_Book_LIMIT)))
    (cvf_Book_NAMES : PySem.W.findCls K (.ref C_Book) (.type "type") "NAMES" = some (.val (.int 12 cvt_Book_NAMES)))
    (cvf_Book_NUMBERS : PySem.W.findCls K (.ref C_Book) (.type "type") "NUMBERS" = some (.val (.int 999 cvt_Book_NUMBERS)))
    (a0 : PySem.W.nsIn K mainGlobals "is_name" = some (some (.ref f0)))
    (l0 : K.lookup f0 = some ⟨oc0, od0, .func (PySem.W.fnOf "is_name" "is_name" (defArgs s_is_name) (defBody s_is_name) (defScope s_is_name) .none kV0 dc0 pm0 an0 cd0 ct0), sl0⟩)
    (c0 : PySem.W.codeIn K cd0 "is_name" = true)
    (k0 : PySem.W.keepIn K (.ref f0) = true)
    (a1 : PySem.W.nsIn K mainGlobals "is_literal" = some (some (.ref f1)))
    (l1 : K.lookup f1 = some ⟨oc1, od1, .func (PySem.W.fnOf "is_literal" "is_literal" (defArgs s_is_literal) (defBody s_is_literal) (defScope s_is_literal) .none kV1 dc1 pm1 an1 cd1 ct1), sl1⟩)
    (c1 : PySem.W.codeIn K cd1 "is_literal" = true)
    (k1 : PySem.W.keepIn K (.ref f1) = true)
    (a2 : PySem.W.nsIn K mainGlobals "check_literal" = some (some (.ref f2)))
    (l2 : K.lookup f2 = some ⟨oc2, od2, .func (PySem.W.fnOf "check_literal" "check_literal" (defArgs s_check_literal) (defBody s_check_literal) (defScope s_check_literal) .none kV2 dc2 pm2 an2 cd2 ct2), sl2⟩)
    (c2 : PySem.W.codeIn K cd2 "check_literal" = true)
    (k2 : PySem.W.keepIn K (.ref f2) = true)
    (a3 : PySem.W.nsIn K mainGlobals "name_of" = some (some (.ref f3)))
    (l3 : K.lookup f3 = some ⟨oc3, od3, .func (PySem.W.fnOf "name_of" "name_of" (defArgs s_name_of) (defBody s_name_of) (defScope s_name_of) .none kV3 dc3 pm3 an3 cd3 ct3), sl3⟩)
    (c3 : PySem.W.codeIn K cd3 "name_of" = true)
    (k3 : PySem.W.keepIn K (.ref f3) = true)
    (a4 : PySem.W.nsIn K mainGlobals "is_positive" = some (some (.ref f4)))
    (l4 : K.lookup f4 = some ⟨oc4, od4, .func (PySem.W.fnOf "is_positive" "is_positive" (defArgs s_is_positive) (defBody s_is_positive) (defScope s_is_positive) .none kV4 dc4 pm4 an4 cd4 ct4), sl4⟩)
    (c4 : PySem.W.codeIn K cd4 "is_positive" = true)
    (k4 : PySem.W.keepIn K (.ref f4) = true)
    (a5 : PySem.W.nsIn K mainGlobals "negated" = some (some (.ref f5)))
    (l5 : K.lookup f5 = some ⟨oc5, od5, .func (PySem.W.fnOf "negated" "negated" (defArgs s_negated) (defBody s_negated) (defScope s_negated) .none kV5 dc5 pm5 an5 cd5 ct5), sl5⟩)
    (c5 : PySem.W.codeIn K cd5 "negated" = true)
    (k5 : PySem.W.keepIn K (.ref f5) = true)
    (a6 : PySem.W.nsIn K mainGlobals "both_signs" = some (some (.ref f6)))
    (l6 : K.lookup f6 = some ⟨oc6, od6, .func (PySem.W.fnOf "both_signs" "both_signs" (defArgs s_both_signs) (defBody s_both_signs) (defScope s_both_signs) .none kV6 dc6 pm6 an6 cd6 ct6), sl6⟩)
    (c6 : PySem.W.codeIn K cd6 "both_signs" = true)
    (k6 : PySem.W.keepIn K (.ref f6) = true)
    (a7 : PySem.W.nsIn K mainGlobals "in_order" = some (some (.ref f7)))
    (l7 : K.lookup f7 = some ⟨oc7, od7, .func (PySem.W.fnOf "in_order" "in_order" (defArgs s_in_order) (defBody s_in_order) (defScope s_in_order) .none kV7 dc7 pm7 an7 cd7 ct7), sl7⟩)
    (c7 : PySem.W.codeIn K cd7 "in_order" = true)
    (k7 : PySem.W.keepIn K (.ref f7) = true)
    (a8 : PySem.W.nsIn K mainGlobals "check_signs" = some (some (.ref f8)))
    (l8 : K.lookup f8 = some ⟨oc8, od8, .func (PySem.W.fnOf "check_signs" "check_signs" (defArgs s_check_signs) (defBody s_check_signs) (defScope s_check_signs) .none kV8 dc8 pm8 an8 cd8 ct8), sl8⟩)
    (c8 : PySem.W.codeIn K cd8 "check_signs" = true)
    (k8 : PySem.W.keepIn K (.ref f8) = true)
    (a9 : PySem.W.findIn K (.ref C_Clause) "__init__" = some (some (.ref f9)))
    (l9 : K.lookup f9 = some ⟨oc9, od9, .func (PySem.W.fnOf "__init__" "Clause.__init__" (defArgs s_Clause_init) (defBody s_Clause_init) (defScope s_Clause_init) .none kV9 dc9 pm9 an9 cd9 ct9), sl9⟩)
    (if9 : PySem.W.isFn K (.ref f9) = true)
    (c9 : PySem.W.codeIn K cd9 "Clause.__init__" = true)
    (k9 : PySem.W.keepIn K (.ref f9) = true)
    (a10 : PySem.W.findIn K (.ref C_Clause) "names" = some (some (.ref pp10)))
    (pr10 : PySem.W.recIn K pp10 "property" = some (.ref f10 :: prest10))
    (pg10 : PySem.W.specialIn K (.ref pp10) "__get__" = some (some (.builtin "property.__get__")))
    (pt10 : PySem.W.takesIn K (.ref pp10) = some true)
    (l10 : K.lookup f10 = some ⟨oc10, od10, .func (PySem.W.fnOf "names" "Clause.names" (defArgs s_Clause_names) (defBody s_Clause_names) (defScope s_Clause_names) .none kV10 dc10 pm10 an10 cd10 ct10), sl10⟩)
    (c10 : PySem.W.codeIn K cd10 "Clause.names" = true)
    (k10 : PySem.W.keepIn K (.ref f10) = true)
    (a11 : PySem.W.findIn K (.ref C_Clause) "__eq__" = some (some (.ref f11)))
    (l11 : K.lookup f11 = some ⟨oc11, od11, .func (PySem.W.fnOf "__eq__" "Clause.__eq__" (defArgs s_Clause_eq) (defBody s_Clause_eq) (defScope s_Clause_eq) .none kV11 dc11 pm11 an11 cd11 ct11), sl11⟩)
    (if11 : PySem.W.isFn K (.ref f11) = true)
    (c11 : PySem.W.codeIn K cd11 "Clause.__eq__" = true)
    (k11 : PySem.W.keepIn K (.ref f11) = true)
    (a12 : PySem.W.findIn K (.ref C_Clause) "__str__" = some (some (.ref f12)))
    (l12 : K.lookup f12 = some ⟨oc12, od12, .func (PySem.W.fnOf "__str__" "Clause.__str__" (defArgs s_Clause_str) (defBody s_Clause_str) (defScope s_Clause_str) .none kV12 dc12 pm12 an12 cd12 ct12), sl12⟩)
    (if12 : PySem.W.isFn K (.ref f12) = true)
    (c12 : PySem.W.codeIn K cd12 "Clause.__str__" = true)
    (k12 : PySem.W.keepIn K (.ref f12) = true)
    (a13 : PySem.W.nsIn K mainGlobals "turned_literal" = some (some (.ref f13)))
    (l13 : K.lookup f13 = some ⟨oc13, od13, .func (PySem.W.fnOf "turned_literal" "turned_literal" (defArgs s_turned_literal) (defBody s_turned_literal) (defScope s_turned_literal) .none kV13 dc13 pm13 an13 cd13 ct13), sl13⟩)
    (c13 : PySem.W.codeIn K cd13 "turned_literal" = true)
    (k13 : PySem.W.keepIn K (.ref f13) = true)
    (a14 : PySem.W.nsIn K mainGlobals "turned_clause" = some (some (.ref f14)))
    (l14 : K.lookup f14 = some ⟨oc14, od14, .func (PySem.W.fnOf "turned_clause" "turned_clause" (defArgs s_turned_clause) (defBody s_turned_clause) (defScope s_turned_clause) .none kV14 dc14 pm14 an14 cd14 ct14), sl14⟩)
    (c14 : PySem.W.codeIn K cd14 "turned_clause" = true)
    (k14 : PySem.W.keepIn K (.ref f14) = true)
    (a15 : PySem.W.nsIn K mainGlobals "_names_in" = some (some (.ref f15)))
    (l15 : K.lookup f15 = some ⟨oc15, od15, .func (PySem.W.fnOf "_names_in" "_names_in" (defArgs s__names_in) (defBody s__names_in) (defScope s__names_in) .none kV15 dc15 pm15 an15 cd15 ct15), sl15⟩)
    (c15 : PySem.W.codeIn K cd15 "_names_in" = true)
    (k15 : PySem.W.keepIn K (.ref f15) = true)
    (a16 : PySem.W.nsIn K mainGlobals "_check_names" = some (some (.ref f16)))
    (l16 : K.lookup f16 = some ⟨oc16, od16, .func (PySem.W.fnOf "_check_names" "_check_names" (defArgs s__check_names) (defBody s__check_names) (defScope s__check_names) .none kV16 dc16 pm16 an16 cd16 ct16), sl16⟩)
    (c16 : PySem.W.codeIn K cd16 "_check_names" = true)
    (k16 : PySem.W.keepIn K (.ref f16) = true)
    (a17 : PySem.W.nsIn K mainGlobals "_check_room" = some (some (.ref f17)))
    (l17 : K.lookup f17 = some ⟨oc17, od17, .func (PySem.W.fnOf "_check_room" "_check_room" (defArgs s__check_room) (defBody s__check_room) (defScope s__check_room) .none kV17 dc17 pm17 an17 cd17 ct17), sl17⟩)
    (c17 : PySem.W.codeIn K cd17 "_check_room" = true)
    (k17 : PySem.W.keepIn K (.ref f17) = true)
    (a18 : PySem.W.nsIn K mainGlobals "_placed_from_one" = some (some (.ref f18)))
    (l18 : K.lookup f18 = some ⟨oc18, od18, .func (PySem.W.fnOf "_placed_from_one" "_placed_from_one" (defArgs s__placed_from_one) (defBody s__placed_from_one) (defScope s__placed_from_one) .none kV18 dc18 pm18 an18 cd18 ct18), sl18⟩)
    (c18 : PySem.W.codeIn K cd18 "_placed_from_one" = true)
    (k18 : PySem.W.keepIn K (.ref f18) = true)
    (a19 : PySem.W.nsIn K mainGlobals "_all_turned" = some (some (.ref f19)))
    (l19 : K.lookup f19 = some ⟨oc19, od19, .func (PySem.W.fnOf "_all_turned" "_all_turned" (defArgs s__all_turned) (defBody s__all_turned) (defScope s__all_turned) .none kV19 dc19 pm19 an19 cd19 ct19), sl19⟩)
    (c19 : PySem.W.codeIn K cd19 "_all_turned" = true)
    (k19 : PySem.W.keepIn K (.ref f19) = true)
    (a20 : PySem.W.nsIn K mainGlobals "book_of" = some (some (.ref f20)))
    (l20 : K.lookup f20 = some ⟨oc20, od20, .func (PySem.W.fnOf "book_of" "book_of" (defArgs s_book_of) (defBody s_book_of) (defScope s_book_of) .none kV20 dc20 pm20 an20 cd20 ct20), sl20⟩)
    (c20 : PySem.W.codeIn K cd20 "book_of" = true)
    (k20 : PySem.W.keepIn K (.ref f20) = true)
    (a21 : PySem.W.findIn K (.ref C_Book) "__init__" = some (some (.ref f21)))
    (l21 : K.lookup f21 = some ⟨oc21, od21, .func (PySem.W.fnOf "__init__" "Book.__init__" (defArgs s_Book_init) (defBody s_Book_init) (defScope s_Book_init) .none kV21 dc21 pm21 an21 cd21 ct21), sl21⟩)
    (if21 : PySem.W.isFn K (.ref f21) = true)
    (c21 : PySem.W.codeIn K cd21 "Book.__init__" = true)
    (k21 : PySem.W.keepIn K (.ref f21) = true)
    (a22 : PySem.W.findIn K (.ref C_Book) "numbered" = some (some (.ref sp22)))
    (sr22 : PySem.W.recIn K sp22 "classmethod" = some (.ref f22 :: srest22))
    (sf22 : PySem.W.findCls K (.ref C_Book) (.type "type") "numbered" = some (.get (.builtin "classmethod.__get__") (.ref sp22) .none (.ref C_Book)))
    (l22 : K.lookup f22 = some ⟨oc22, od22, .func (PySem.W.fnOf "numbered" "Book.numbered" (defArgs s_Book_numbered) (defBody s_Book_numbered) (defScope s_Book_numbered) .none kV22 dc22 pm22 an22 cd22 ct22), sl22⟩)
    (sk22 : PySem.W.fnIn K f22 = true)
    (c22 : PySem.W.codeIn K cd22 "Book.numbered" = true)
    (k22 : PySem.W.keepIn K (.ref f22) = true)
    (a23 : PySem.W.findIn K (.ref C_Book) "names" = some (some (.ref pp23)))
    (pr23 : PySem.W.recIn K pp23 "property" = some (.ref f23 :: prest23))
    (pg23 : PySem.W.specialIn K (.ref pp23) "__get__" = some (some (.builtin "property.__get__")))
    (pt23 : PySem.W.takesIn K (.ref pp23) = some true)
    (l23 : K.lookup f23 = some ⟨oc23, od23, .func (PySem.W.fnOf "names" "Book.names" (defArgs s_Book_names) (defBody s_Book_names) (defScope s_Book_names) .none kV23 dc23 pm23 an23 cd23 ct23), sl23⟩)
    (c23 : PySem.W.codeIn K cd23 "Book.names" = true)
    (k23 : PySem.W.keepIn K (.ref f23) = true)
    (a24 : PySem.W.findIn K (.ref C_Book) "next_number" = some (some (.ref pp24)))
    (pr24 : PySem.W.recIn K pp24 "property" = some (.ref f24 :: prest24))
    (pg24 : PySem.W.specialIn K (.ref pp24) "__get__" = some (some (.builtin "property.__get__")))
    (pt24 : PySem.W.takesIn K (.ref pp24) = some true)
    (l24 : K.lookup f24 = some ⟨oc24, od24, .func (PySem.W.fnOf "next_number" "Book.next_number" (defArgs s_Book_next_number) (defBody s_Book_next_number) (defScope s_Book_next_number) .none kV24 dc24 pm24 an24 cd24 ct24), sl24⟩)
    (c24 : PySem.W.codeIn K cd24 "Book.next_number" = true)
    (k24 : PySem.W.keepIn K (.ref f24) = true)
    (a25 : PySem.W.findIn K (.ref C_Book) "__iter__" = some (some (.ref f25)))
    (l25 : K.lookup f25 = some ⟨oc25, od25, .func (PySem.W.fnOf "__iter__" "Book.__iter__" (defArgs s_Book_iter) (defBody s_Book_iter) (defScope s_Book_iter) .none kV25 dc25 pm25 an25 cd25 ct25), sl25⟩)
    (if25 : PySem.W.isFn K (.ref f25) = true)
    (c25 : PySem.W.codeIn K cd25 "Book.__iter__" = true)
    (k25 : PySem.W.keepIn K (.ref f25) = true)
    (a26 : PySem.W.findIn K (.ref C_Book) "__len__" = some (some (.ref f26)))
    (l26 : K.lookup f26 = some ⟨oc26, od26, .func (PySem.W.fnOf "__len__" "Book.__len__" (defArgs s_Book_len) (defBody s_Book_len) (defScope s_Book_len) .none kV26 dc26 pm26 an26 cd26 ct26), sl26⟩)
    (if26 : PySem.W.isFn K (.ref f26) = true)
    (c26 : PySem.W.codeIn K cd26 "Book.__len__" = true)
    (k26 : PySem.W.keepIn K (.ref f26) = true)
    (a27 : PySem.W.findIn K (.ref C_Book) "__contains__" = some (some (.ref f27)))
    (l27 : K.lookup f27 = some ⟨oc27, od27, .func (PySem.W.fnOf "__contains__" "Book.__contains__" (defArgs s_Book_contains) (defBody s_Book_contains) (defScope s_Book_contains) .none kV27 dc27 pm27 an27 cd27 ct27), sl27⟩)
    (if27 : PySem.W.isFn K (.ref f27) = true)
    (c27 : PySem.W.codeIn K cd27 "Book.__contains__" = true)
    (k27 : PySem.W.keepIn K (.ref f27) = true)
    (a28 : PySem.W.findIn K (.ref C_Book) "__getitem__" = some (some (.ref f28)))
    (l28 : K.lookup f28 = some ⟨oc28, od28, .func (PySem.W.fnOf "__getitem__" "Book.__getitem__" (defArgs s_Book_getitem) (defBody s_Book_getitem) (defScope s_Book_getitem) .none kV28 dc28 pm28 an28 cd28 ct28), sl28⟩)
    (if28 : PySem.W.isFn K (.ref f28) = true)
    (c28 : PySem.W.codeIn K cd28 "Book.__getitem__" = true)
    (k28 : PySem.W.keepIn K (.ref f28) = true)
    (a29 : PySem.W.nsIn K mainGlobals "is_number" = some (some (.ref f29)))
    (l29 : K.lookup f29 = some ⟨oc29, od29, .func (PySem.W.fnOf "is_number" "is_number" (defArgs s_is_number) (defBody s_is_number) (defScope s_is_number) .none kV29 dc29 pm29 an29 cd29 ct29), sl29⟩)
    (c29 : PySem.W.codeIn K cd29 "is_number" = true)
    (k29 : PySem.W.keepIn K (.ref f29) = true)
    (a30 : PySem.W.nsIn K mainGlobals "_clause_in" = some (some (.ref f30)))
    (l30 : K.lookup f30 = some ⟨oc30, od30, .func (PySem.W.fnOf "_clause_in" "_clause_in" (defArgs s__clause_in) (defBody s__clause_in) (defScope s__clause_in) .none kV30 dc30 pm30 an30 cd30 ct30), sl30⟩)
    (c30 : PySem.W.codeIn K cd30 "_clause_in" = true)
    (k30 : PySem.W.keepIn K (.ref f30) = true)
    (a31 : PySem.W.nsIn K mainGlobals "_pair_in" = some (some (.ref f31)))
    (l31 : K.lookup f31 = some ⟨oc31, od31, .func (PySem.W.fnOf "_pair_in" "_pair_in" (defArgs s__pair_in) (defBody s__pair_in) (defScope s__pair_in) .none kV31 dc31 pm31 an31 cd31 ct31), sl31⟩)
    (c31 : PySem.W.codeIn K cd31 "_pair_in" = true)
    (k31 : PySem.W.keepIn K (.ref f31) = true)
    (a32 : PySem.W.nsIn K mainGlobals "_book_up_to" = some (some (.ref f32)))
    (l32 : K.lookup f32 = some ⟨oc32, od32, .func (PySem.W.fnOf "_book_up_to" "_book_up_to" (defArgs s__book_up_to) (defBody s__book_up_to) (defScope s__book_up_to) .none kV32 dc32 pm32 an32 cd32 ct32), sl32⟩)
    (c32 : PySem.W.codeIn K cd32 "_book_up_to" = true)
    (k32 : PySem.W.keepIn K (.ref f32) = true)
    (a33 : PySem.W.nsIn K mainGlobals "book_in" = some (some (.ref f33)))
    (l33 : K.lookup f33 = some ⟨oc33, od33, .func (PySem.W.fnOf "book_in" "book_in" (defArgs s_book_in) (defBody s_book_in) (defScope s_book_in) .none kV33 dc33 pm33 an33 cd33 ct33), sl33⟩)
    (c33 : PySem.W.codeIn K cd33 "book_in" = true)
    (k33 : PySem.W.keepIn K (.ref f33) = true)
    (a34 : PySem.W.nsIn K mainGlobals "read_book" = some (some (.ref f34)))
    (l34 : K.lookup f34 = some ⟨oc34, od34, .func (PySem.W.fnOf "read_book" "read_book" (defArgs s_read_book) (defBody s_read_book) (defScope s_read_book) .none kV34 dc34 pm34 an34 cd34 ct34), sl34⟩)
    (c34 : PySem.W.codeIn K cd34 "read_book" = true)
    (k34 : PySem.W.keepIn K (.ref f34) = true)
    (a35 : PySem.W.nsIn K mainGlobals "clause_text" = some (some (.ref f35)))
    (l35 : K.lookup f35 = some ⟨oc35, od35, .func (PySem.W.fnOf "clause_text" "clause_text" (defArgs s_clause_text) (defBody s_clause_text) (defScope s_clause_text) .none kV35 dc35 pm35 an35 cd35 ct35), sl35⟩)
    (c35 : PySem.W.codeIn K cd35 "clause_text" = true)
    (k35 : PySem.W.keepIn K (.ref f35) = true)
    (a36 : PySem.W.nsIn K mainGlobals "book_lines" = some (some (.ref f36)))
    (l36 : K.lookup f36 = some ⟨oc36, od36, .func (PySem.W.fnOf "book_lines" "book_lines" (defArgs s_book_lines) (defBody s_book_lines) (defScope s_book_lines) .none kV36 dc36 pm36 an36 cd36 ct36), sl36⟩)
    (c36 : PySem.W.codeIn K cd36 "book_lines" = true)
    (k36 : PySem.W.keepIn K (.ref f36) = true)
    (a37 : PySem.W.nsIn K mainGlobals "book_text" = some (some (.ref f37)))
    (l37 : K.lookup f37 = some ⟨oc37, od37, .func (PySem.W.fnOf "book_text" "book_text" (defArgs s_book_text) (defBody s_book_text) (defScope s_book_text) .none kV37 dc37 pm37 an37 cd37 ct37), sl37⟩)
    (c37 : PySem.W.codeIn K cd37 "book_text" = true)
    (k37 : PySem.W.keepIn K (.ref f37) = true)
    (a38 : PySem.W.nsIn K mainGlobals "_law_source" = some (some (.ref f38)))
    (l38 : K.lookup f38 = some ⟨oc38, od38, .func (PySem.W.fnOf "_law_source" "_law_source" (defArgs s__law_source) (defBody s__law_source) (defScope s__law_source) .none kV38 dc38 pm38 an38 cd38 ct38), sl38⟩)
    (c38 : PySem.W.codeIn K cd38 "_law_source" = true)
    (k38 : PySem.W.keepIn K (.ref f38) = true)
    (a39 : PySem.W.nsIn K mainGlobals "_law_take" = some (some (.ref f39)))
    (l39 : K.lookup f39 = some ⟨oc39, od39, .func (PySem.W.fnOf "_law_take" "_law_take" (defArgs s__law_take) (defBody s__law_take) (defScope s__law_take) .none kV39 dc39 pm39 an39 cd39 ct39), sl39⟩)
    (c39 : PySem.W.codeIn K cd39 "_law_take" = true)
    (k39 : PySem.W.keepIn K (.ref f39) = true)
    (a40 : PySem.W.nsIn K mainGlobals "_law_word" = some (some (.ref f40)))
    (l40 : K.lookup f40 = some ⟨oc40, od40, .func (PySem.W.fnOf "_law_word" "_law_word" (defArgs s__law_word) (defBody s__law_word) (defScope s__law_word) .none kV40 dc40 pm40 an40 cd40 ct40), sl40⟩)
    (c40 : PySem.W.codeIn K cd40 "_law_word" = true)
    (k40 : PySem.W.keepIn K (.ref f40) = true)
    (a41 : PySem.W.nsIn K mainGlobals "_law_names" = some (some (.ref f41)))
    (l41 : K.lookup f41 = some ⟨oc41, od41, .func (PySem.W.fnOf "_law_names" "_law_names" (defArgs s__law_names) (defBody s__law_names) (defScope s__law_names) .none kV41 dc41 pm41 an41 cd41 ct41), sl41⟩)
    (c41 : PySem.W.codeIn K cd41 "_law_names" = true)
    (k41 : PySem.W.keepIn K (.ref f41) = true)
    (a42 : PySem.W.nsIn K mainGlobals "_law_flip" = some (some (.ref f42)))
    (l42 : K.lookup f42 = some ⟨oc42, od42, .func (PySem.W.fnOf "_law_flip" "_law_flip" (defArgs s__law_flip) (defBody s__law_flip) (defScope s__law_flip) .none kV42 dc42 pm42 an42 cd42 ct42), sl42⟩)
    (c42 : PySem.W.codeIn K cd42 "_law_flip" = true)
    (k42 : PySem.W.keepIn K (.ref f42) = true)
    (a43 : PySem.W.nsIn K mainGlobals "_law_name" = some (some (.ref f43)))
    (l43 : K.lookup f43 = some ⟨oc43, od43, .func (PySem.W.fnOf "_law_name" "_law_name" (defArgs s__law_name) (defBody s__law_name) (defScope s__law_name) .none kV43 dc43 pm43 an43 cd43 ct43), sl43⟩)
    (c43 : PySem.W.codeIn K cd43 "_law_name" = true)
    (k43 : PySem.W.keepIn K (.ref f43) = true)
    (a44 : PySem.W.nsIn K mainGlobals "_law_sorted" = some (some (.ref f44)))
    (l44 : K.lookup f44 = some ⟨oc44, od44, .func (PySem.W.fnOf "_law_sorted" "_law_sorted" (defArgs s__law_sorted) (defBody s__law_sorted) (defScope s__law_sorted) .none kV44 dc44 pm44 an44 cd44 ct44), sl44⟩)
    (c44 : PySem.W.codeIn K cd44 "_law_sorted" = true)
    (k44 : PySem.W.keepIn K (.ref f44) = true)
    (a45 : PySem.W.nsIn K mainGlobals "_law_ordered" = some (some (.ref f45)))
    (l45 : K.lookup f45 = some ⟨oc45, od45, .func (PySem.W.fnOf "_law_ordered" "_law_ordered" (defArgs s__law_ordered) (defBody s__law_ordered) (defScope s__law_ordered) .none kV45 dc45 pm45 an45 cd45 ct45), sl45⟩)
    (c45 : PySem.W.codeIn K cd45 "_law_ordered" = true)
    (k45 : PySem.W.keepIn K (.ref f45) = true)
    (a46 : PySem.W.nsIn K mainGlobals "_law_same" = some (some (.ref f46)))
    (l46 : K.lookup f46 = some ⟨oc46, od46, .func (PySem.W.fnOf "_law_same" "_law_same" (defArgs s__law_same) (defBody s__law_same) (defScope s__law_same) .none kV46 dc46 pm46 an46 cd46 ct46), sl46⟩)
    (c46 : PySem.W.codeIn K cd46 "_law_same" = true)
    (k46 : PySem.W.keepIn K (.ref f46) = true)
    (a47 : PySem.W.nsIn K mainGlobals "_law_row" = some (some (.ref f47)))
    (l47 : K.lookup f47 = some ⟨oc47, od47, .func (PySem.W.fnOf "_law_row" "_law_row" (defArgs s__law_row) (defBody s__law_row) (defScope s__law_row) .none kV47 dc47 pm47 an47 cd47 ct47), sl47⟩)
    (c47 : PySem.W.codeIn K cd47 "_law_row" = true)
    (k47 : PySem.W.keepIn K (.ref f47) = true)
    (a48 : PySem.W.nsIn K mainGlobals "_law_numbers" = some (some (.ref f48)))
    (l48 : K.lookup f48 = some ⟨oc48, od48, .func (PySem.W.fnOf "_law_numbers" "_law_numbers" (defArgs s__law_numbers) (defBody s__law_numbers) (defScope s__law_numbers) .none kV48 dc48 pm48 an48 cd48 ct48), sl48⟩)
    (c48 : PySem.W.codeIn K cd48 "_law_numbers" = true)
    (k48 : PySem.W.keepIn K (.ref f48) = true)
    (a49 : PySem.W.nsIn K mainGlobals "_law_names_in" = some (some (.ref f49)))
    (l49 : K.lookup f49 = some ⟨oc49, od49, .func (PySem.W.fnOf "_law_names_in" "_law_names_in" (defArgs s__law_names_in) (defBody s__law_names_in) (defScope s__law_names_in) .none kV49 dc49 pm49 an49 cd49 ct49), sl49⟩)
    (c49 : PySem.W.codeIn K cd49 "_law_names_in" = true)
    (k49 : PySem.W.keepIn K (.ref f49) = true)
    (a50 : PySem.W.nsIn K mainGlobals "_law_bad" = some (some (.ref f50)))
    (l50 : K.lookup f50 = some ⟨oc50, od50, .func (PySem.W.fnOf "_law_bad" "_law_bad" (defArgs s__law_bad) (defBody s__law_bad) (defScope s__law_bad) .none kV50 dc50 pm50 an50 cd50 ct50), sl50⟩)
    (c50 : PySem.W.codeIn K cd50 "_law_bad" = true)
    (k50 : PySem.W.keepIn K (.ref f50) = true)
    (a51 : PySem.W.nsIn K mainGlobals "_law_is_name" = some (some (.ref f51)))
    (l51 : K.lookup f51 = some ⟨oc51, od51, .func (PySem.W.fnOf "_law_is_name" "_law_is_name" (defArgs s__law_is_name) (defBody s__law_is_name) (defScope s__law_is_name) .none kV51 dc51 pm51 an51 cd51 ct51), sl51⟩)
    (c51 : PySem.W.codeIn K cd51 "_law_is_name" = true)
    (k51 : PySem.W.keepIn K (.ref f51) = true)
    (a52 : PySem.W.nsIn K mainGlobals "_law_row_of" = some (some (.ref f52)))
    (l52 : K.lookup f52 = some ⟨oc52, od52, .func (PySem.W.fnOf "_law_row_of" "_law_row_of" (defArgs s__law_row_of) (defBody s__law_row_of) (defScope s__law_row_of) .none kV52 dc52 pm52 an52 cd52 ct52), sl52⟩)
    (c52 : PySem.W.codeIn K cd52 "_law_row_of" = true)
    (k52 : PySem.W.keepIn K (.ref f52) = true)
    (a53 : PySem.W.nsIn K mainGlobals "_law_number_of" = some (some (.ref f53)))
    (l53 : K.lookup f53 = some ⟨oc53, od53, .func (PySem.W.fnOf "_law_number_of" "_law_number_of" (defArgs s__law_number_of) (defBody s__law_number_of) (defScope s__law_number_of) .none kV53 dc53 pm53 an53 cd53 ct53), sl53⟩)
    (c53 : PySem.W.codeIn K cd53 "_law_number_of" = true)
    (k53 : PySem.W.keepIn K (.ref f53) = true)
    (a54 : PySem.W.nsIn K mainGlobals "_law_judged" = some (some (.ref f54)))
    (l54 : K.lookup f54 = some ⟨oc54, od54, .func (PySem.W.fnOf "_law_judged" "_law_judged" (defArgs s__law_judged) (defBody s__law_judged) (defScope s__law_judged) .none kV54 dc54 pm54 an54 cd54 ct54), sl54⟩)
    (c54 : PySem.W.codeIn K cd54 "_law_judged" = true)
    (k54 : PySem.W.keepIn K (.ref f54) = true)
    (a55 : PySem.W.nsIn K mainGlobals "_law_state" = some (some (.ref f55)))
    (l55 : K.lookup f55 = some ⟨oc55, od55, .func (PySem.W.fnOf "_law_state" "_law_state" (defArgs s__law_state) (defBody s__law_state) (defScope s__law_state) .none kV55 dc55 pm55 an55 cd55 ct55), sl55⟩)
    (c55 : PySem.W.codeIn K cd55 "_law_state" = true)
    (k55 : PySem.W.keepIn K (.ref f55) = true)
    (a56 : PySem.W.nsIn K mainGlobals "_law_refused" = some (some (.ref f56)))
    (l56 : K.lookup f56 = some ⟨oc56, od56, .func (PySem.W.fnOf "_law_refused" "_law_refused" (defArgs s__law_refused) (defBody s__law_refused) (defScope s__law_refused) .none kV56 dc56 pm56 an56 cd56 ct56), sl56⟩)
    (c56 : PySem.W.codeIn K cd56 "_law_refused" = true)
    (k56 : PySem.W.keepIn K (.ref f56) = true)
    (a57 : PySem.W.nsIn K mainGlobals "_law_right" = some (some (.ref f57)))
    (l57 : K.lookup f57 = some ⟨oc57, od57, .func (PySem.W.fnOf "_law_right" "_law_right" (defArgs s__law_right) (defBody s__law_right) (defScope s__law_right) .none kV57 dc57 pm57 an57 cd57 ct57), sl57⟩)
    (c57 : PySem.W.codeIn K cd57 "_law_right" = true)
    (k57 : PySem.W.keepIn K (.ref f57) = true)
    (a58 : PySem.W.nsIn K mainGlobals "_law_lines" = some (some (.ref f58)))
    (l58 : K.lookup f58 = some ⟨oc58, od58, .func (PySem.W.fnOf "_law_lines" "_law_lines" (defArgs s__law_lines) (defBody s__law_lines) (defScope s__law_lines) .none kV58 dc58 pm58 an58 cd58 ct58), sl58⟩)
    (c58 : PySem.W.codeIn K cd58 "_law_lines" = true)
    (k58 : PySem.W.keepIn K (.ref f58) = true)
    (a59 : PySem.W.nsIn K mainGlobals "_law_other_clause" = some (some (.ref f59)))
    (l59 : K.lookup f59 = some ⟨oc59, od59, .func (PySem.W.fnOf "_law_other_clause" "_law_other_clause" (defArgs s__law_other_clause) (defBody s__law_other_clause) (defScope s__law_other_clause) .none kV59 dc59 pm59 an59 cd59 ct59), sl59⟩)
    (c59 : PySem.W.codeIn K cd59 "_law_other_clause" = true)
    (k59 : PySem.W.keepIn K (.ref f59) = true)
    (a60 : PySem.W.nsIn K mainGlobals "_law_other_line" = some (some (.ref f60)))
    (l60 : K.lookup f60 = some ⟨oc60, od60, .func (PySem.W.fnOf "_law_other_line" "_law_other_line" (defArgs s__law_other_line) (defBody s__law_other_line) (defScope s__law_other_line) .none kV60 dc60 pm60 an60 cd60 ct60), sl60⟩)
    (c60 : PySem.W.codeIn K cd60 "_law_other_line" = true)
    (k60 : PySem.W.keepIn K (.ref f60) = true)
    (a61 : PySem.W.nsIn K mainGlobals "_law_spoilt" = some (some (.ref f61)))
    (l61 : K.lookup f61 = some ⟨oc61, od61, .func (PySem.W.fnOf "_law_spoilt" "_law_spoilt" (defArgs s__law_spoilt) (defBody s__law_spoilt) (defScope s__law_spoilt) .none kV61 dc61 pm61 an61 cd61 ct61), sl61⟩)
    (c61 : PySem.W.codeIn K cd61 "_law_spoilt" = true)
    (k61 : PySem.W.keepIn K (.ref f61) = true)
    (a62 : PySem.W.nsIn K mainGlobals "law" = some (some (.ref f62)))
    (l62 : K.lookup f62 = some ⟨oc62, od62, .func (PySem.W.fnOf "law" "law" (defArgs s_law) (defBody s_law) (defScope s_law) .none kV62 dc62 pm62 an62 cd62 ct62), sl62⟩)
    (c62 : PySem.W.codeIn K cd62 "law" = true)
    (k62 : PySem.W.keepIn K (.ref f62) = true)
    (v0 : PySem.W.nsIn K mainGlobals "LETTERS" = some (some (.str "abcdefghijklmnopqrstuvwxyz" tk0)))
    (v1 : PySem.W.nsIn K mainGlobals "LETTERS_AND_DIGITS" = some (some (.str "abcdefghijklmnopqrstuvwxyz0123456789" tk1)))
    (v2 : PySem.W.nsIn K mainGlobals "LONGEST_NAME" = some (some (.int 8 tk2)))
    (v3 : PySem.W.nsIn K mainGlobals "MOST_DIGITS" = some (some (.int 3 tk3)))
    (eg0 : PySem.W.nsIn K mainGlobals "HornError" = some (some (.ref C_HornError)))
    (eg1 : PySem.W.nsIn K mainGlobals "BadLiteral" = some (some (.ref C_BadLiteral)))
    (el1 : K.lookup C_BadLiteral = some (excClassObj n_1 q_1 C_BadLiteral N_1 bs_1 bm_1 true sn_1 sub_1 ab_1 col_1 dd_1 w0_1 w1_1 w2_1 w3_1 w5_1 "ValueError.__new__"))
    (er1 : PySem.HandSPX.refsVE bm_1 = true)
    (esa1 : PySem.W.findIn K (.ref C_BadLiteral) "__setattr__" = some (some (.builtin "object.__setattr__")))
    (ega1 : PySem.W.findIn K (.ref C_BadLiteral) "__getattribute__" = some (some (.builtin "BaseException.__getattribute__")))
    (egg1 : PySem.W.findIn K (.ref C_BadLiteral) "__getattr__" = some none)
    (ein1 : PySem.W.findIn K (.ref C_BadLiteral) "__init__" = some (some (.ref i_BadLiteral)))
    (ecl1 : PySem.W.findIn K (.ref C_BadLiteral) "__class__" = some (some (.builtin "object.__class__")))
    (efn1 : PySem.W.findIn K (.ref C_BadLiteral) "text" = some none)
    (eti1 : PySem.W.typeIn K (.ref i_BadLiteral) = some (.type "function"))
    (ekc1 : PySem.W.keepIn K (.ref C_BadLiteral) = true)
    (ebe1 : PySem.W.subIn K (.ref C_BadLiteral) (.type "BaseException") = some true)
    (eve1 : PySem.W.subIn K (.ref C_BadLiteral) (.type "ValueError") = some true)
    (ety1 : PySem.W.typeIn K (.ref C_BadLiteral) = some (.type "type"))
    (ehd1 : PySem.W.hasDictIn K C_BadLiteral = true)
    (eic1 : PySem.W.isClsIn K C_BadLiteral = true)
    (ess1 : PySem.W.subIn K (.ref C_BadLiteral) (.ref C_BadLiteral) = some true)
    (eup1 : PySem.W.ks_superIn K C_BadLiteral C_BadLiteral "__init__" = some (some (.builtin "ValueError.__init__")))
    (emr1 : PySem.W.mroIn K C_BadLiteral (.ref C_BadLiteral) = some true)
    (emo1 : PySem.W.mroIn K C_BadLiteral (.type "object") = some true)
    (elf1 : K.lookup i_BadLiteral = some ⟨oce_1, ode_1, .func (PySem.W.ksFn "__init__" ("BadLiteral" ++ ".__init__") ea_BadLiteral eb_BadLiteral (scope1 "text") .none .none dce_1 pme_1 ane_1 (.ref cda1) cte_1 cc1), sle_1⟩)
    (ecd1 : PySem.W.codeIn K (.ref cda1) ("BadLiteral" ++ ".__init__") = true)
    (elc1 : K.lookup cda1 = some ⟨ccl_1, cdd_1, .fields vs_1, ccs_1⟩)
    (evs1 : vs_1[2]? = some (.str file_1 tf_1))
    (efi1 : (l.prog.main.file == file_1) = true)
    (ece1 : K.lookup cc1 = some ⟨cl_1, cld_1, .cell (some (.ref C_BadLiteral)), csl_1⟩)
    (eg2 : PySem.W.nsIn K mainGlobals "BadText" = some (some (.ref C_BadText)))
    (el2 : K.lookup C_BadText = some (excClassObj n_2 q_2 C_BadText N_2 bs_2 bm_2 true sn_2 sub_2 ab_2 col_2 dd_2 w0_2 w1_2 w2_2 w3_2 w5_2 "ValueError.__new__"))
    (er2 : PySem.HandSPX.refsVE bm_2 = true)
    (esa2 : PySem.W.findIn K (.ref C_BadText) "__setattr__" = some (some (.builtin "object.__setattr__")))
    (ega2 : PySem.W.findIn K (.ref C_BadText) "__getattribute__" = some (some (.builtin "BaseException.__getattribute__")))
    (egg2 : PySem.W.findIn K (.ref C_BadText) "__getattr__" = some none)
    (ein2 : PySem.W.findIn K (.ref C_BadText) "__init__" = some (some (.ref i_BadText)))
    (ecl2 : PySem.W.findIn K (.ref C_BadText) "__class__" = some (some (.builtin "object.__class__")))
    (efn2 : PySem.W.findIn K (.ref C_BadText) "line" = some none)
    (eti2 : PySem.W.typeIn K (.ref i_BadText) = some (.type "function"))
    (ekc2 : PySem.W.keepIn K (.ref C_BadText) = true)
    (ebe2 : PySem.W.subIn K (.ref C_BadText) (.type "BaseException") = some true)
    (eve2 : PySem.W.subIn K (.ref C_BadText) (.type "ValueError") = some true)
    (ety2 : PySem.W.typeIn K (.ref C_BadText) = some (.type "type"))
    (ehd2 : PySem.W.hasDictIn K C_BadText = true)
    (eic2 : PySem.W.isClsIn K C_BadText = true)
    (ess2 : PySem.W.subIn K (.ref C_BadText) (.ref C_BadText) = some true)
    (eup2 : PySem.W.ks_superIn K C_BadText C_BadText "__init__" = some (some (.builtin "ValueError.__init__")))
    (emr2 : PySem.W.mroIn K C_BadText (.ref C_BadText) = some true)
    (emo2 : PySem.W.mroIn K C_BadText (.type "object") = some true)
    (elf2 : K.lookup i_BadText = some ⟨oce_2, ode_2, .func (PySem.W.ksFn "__init__" ("BadText" ++ ".__init__") ea_BadText eb_BadText (scope1 "line") .none .none dce_2 pme_2 ane_2 (.ref cda2) cte_2 cc2), sle_2⟩)
    (ecd2 : PySem.W.codeIn K (.ref cda2) ("BadText" ++ ".__init__") = true)
    (elc2 : K.lookup cda2 = some ⟨ccl_2, cdd_2, .fields vs_2, ccs_2⟩)
    (evs2 : vs_2[2]? = some (.str file_2 tf_2))
    (efi2 : (l.prog.main.file == file_2) = true)
    (ece2 : K.lookup cc2 = some ⟨cl_2, cld_2, .cell (some (.ref C_BadText)), csl_2⟩)
    (eg3 : PySem.W.nsIn K mainGlobals "BothSigns" = some (some (.ref C_BothSigns)))
    (el3 : K.lookup C_BothSigns = some (excClassObj n_3 q_3 C_BothSigns N_3 bs_3 bm_3 true sn_3 sub_3 ab_3 col_3 dd_3 w0_3 w1_3 w2_3 w3_3 w5_3 "ValueError.__new__"))
    (er3 : PySem.HandSPX.refsVE bm_3 = true)
    (esa3 : PySem.W.findIn K (.ref C_BothSigns) "__setattr__" = some (some (.builtin "object.__setattr__")))
    (ega3 : PySem.W.findIn K (.ref C_BothSigns) "__getattribute__" = some (some (.builtin "BaseException.__getattribute__")))
    (egg3 : PySem.W.findIn K (.ref C_BothSigns) "__getattr__" = some none)
    (ein3 : PySem.W.findIn K (.ref C_BothSigns) "__init__" = some (some (.ref i_BothSigns)))
    (ecl3 : PySem.W.findIn K (.ref C_BothSigns) "__class__" = some (some (.builtin "object.__class__")))
    (efn3 : PySem.W.findIn K (.ref C_BothSigns) "name" = some none)
    (eti3 : PySem.W.typeIn K (.ref i_BothSigns) = some (.type "function"))
    (ekc3 : PySem.W.keepIn K (.ref C_BothSigns) = true)
    (ebe3 : PySem.W.subIn K (.ref C_BothSigns) (.type "BaseException") = some true)
    (eve3 : PySem.W.subIn K (.ref C_BothSigns) (.type "ValueError") = some true)
    (ety3 : PySem.W.typeIn K (.ref C_BothSigns) = some (.type "type"))
    (ehd3 : PySem.W.hasDictIn K C_BothSigns = true)
    (eic3 : PySem.W.isClsIn K C_BothSigns = true)
    (ess3 : PySem.W.subIn K (.ref C_BothSigns) (.ref C_BothSigns) = some true)
    (eup3 : PySem.W.ks_superIn K C_BothSigns C_BothSigns "__init__" = some (some (.builtin "ValueError.__init__")))
    (emr3 : PySem.W.mroIn K C_BothSigns (.ref C_BothSigns) = some true)
    (emo3 : PySem.W.mroIn K C_BothSigns (.type "object") = some true)
    (elf3 : K.lookup i_BothSigns = some ⟨oce_3, ode_3, .func (PySem.W.ksFn "__init__" ("BothSigns" ++ ".__init__") ea_BothSigns eb_BothSigns (scope1 "name") .none .none dce_3 pme_3 ane_3 (.ref cda3) cte_3 cc3), sle_3⟩)
    (ecd3 : PySem.W.codeIn K (.ref cda3) ("BothSigns" ++ ".__init__") = true)
    (elc3 : K.lookup cda3 = some ⟨ccl_3, cdd_3, .fields vs_3, ccs_3⟩)
    (evs3 : vs_3[2]? = some (.str file_3 tf_3))
    (efi3 : (l.prog.main.file == file_3) = true)
    (ece3 : K.lookup cc3 = some ⟨cl_3, cld_3, .cell (some (.ref C_BothSigns)), csl_3⟩)
    (eg4 : PySem.W.nsIn K mainGlobals "TooMany" = some (some (.ref C_TooMany)))
    (el4 : K.lookup C_TooMany = some (excClassObj n_4 q_4 C_TooMany N_4 bs_4 bm_4 true sn_4 sub_4 ab_4 col_4 dd_4 w0_4 w1_4 w2_4 w3_4 w5_4 "ValueError.__new__"))
    (er4 : PySem.HandSPX.refsVE bm_4 = true)
    (esa4 : PySem.W.findIn K (.ref C_TooMany) "__setattr__" = some (some (.builtin "object.__setattr__")))
    (ega4 : PySem.W.findIn K (.ref C_TooMany) "__getattribute__" = some (some (.builtin "BaseException.__getattribute__")))
    (egg4 : PySem.W.findIn K (.ref C_TooMany) "__getattr__" = some none)
    (ein4 : PySem.W.findIn K (.ref C_TooMany) "__init__" = some (some (.ref i_TooMany)))
    (ecl4 : PySem.W.findIn K (.ref C_TooMany) "__class__" = some (some (.builtin "object.__class__")))
    (efn4 : PySem.W.findIn K (.ref C_TooMany) "limit" = some none)
    (eti4 : PySem.W.typeIn K (.ref i_TooMany) = some (.type "function"))
    (ekc4 : PySem.W.keepIn K (.ref C_TooMany) = true)
    (ebe4 : PySem.W.subIn K (.ref C_TooMany) (.type "BaseException") = some true)
    (eve4 : PySem.W.subIn K (.ref C_TooMany) (.type "ValueError") = some true)
    (ety4 : PySem.W.typeIn K (.ref C_TooMany) = some (.type "type"))
    (ehd4 : PySem.W.hasDictIn K C_TooMany = true)
    (eic4 : PySem.W.isClsIn K C_TooMany = true)
    (ess4 : PySem.W.subIn K (.ref C_TooMany) (.ref C_TooMany) = some true)
    (eup4 : PySem.W.ks_superIn K C_TooMany C_TooMany "__init__" = some (some (.builtin "ValueError.__init__")))
    (emr4 : PySem.W.mroIn K C_TooMany (.ref C_TooMany) = some true)
    (emo4 : PySem.W.mroIn K C_TooMany (.type "object") = some true)
    (elf4 : K.lookup i_TooMany = some ⟨oce_4, ode_4, .func (PySem.W.ksFn "__init__" ("TooMany" ++ ".__init__") ea_TooMany eb_TooMany (scope1 "limit") .none .none dce_4 pme_4 ane_4 (.ref cda4) cte_4 cc4), sle_4⟩)
    (ecd4 : PySem.W.codeIn K (.ref cda4) ("TooMany" ++ ".__init__") = true)
    (elc4 : K.lookup cda4 = some ⟨ccl_4, cdd_4, .fields vs_4, ccs_4⟩)
    (evs4 : vs_4[2]? = some (.str file_4 tf_4))
    (efi4 : (l.prog.main.file == file_4) = true)
    (ece4 : K.lookup cc4 = some ⟨cl_4, cld_4, .cell (some (.ref C_TooMany)), csl_4⟩)
    (eg5 : PySem.W.nsIn K mainGlobals "NoClause" = some (some (.ref C_NoClause)))
    (el5 : K.lookup C_NoClause = some (excClassObj n_5 q_5 C_NoClause N_5 bs_5 bm_5 true sn_5 sub_5 ab_5 col_5 dd_5 w0_5 w1_5 w2_5 w3_5 w5_5 "ValueError.__new__"))
    (er5 : PySem.HandSPX.refsVE bm_5 = true)
    (esa5 : PySem.W.findIn K (.ref C_NoClause) "__setattr__" = some (some (.builtin "object.__setattr__")))
    (ega5 : PySem.W.findIn K (.ref C_NoClause) "__getattribute__" = some (some (.builtin "BaseException.__getattribute__")))
    (egg5 : PySem.W.findIn K (.ref C_NoClause) "__getattr__" = some none)
    (ein5 : PySem.W.findIn K (.ref C_NoClause) "__init__" = some (some (.ref i_NoClause)))
    (ecl5 : PySem.W.findIn K (.ref C_NoClause) "__class__" = some (some (.builtin "object.__class__")))
    (efn5 : PySem.W.findIn K (.ref C_NoClause) "number" = some none)
    (eti5 : PySem.W.typeIn K (.ref i_NoClause) = some (.type "function"))
    (ekc5 : PySem.W.keepIn K (.ref C_NoClause) = true)
    (ebe5 : PySem.W.subIn K (.ref C_NoClause) (.type "BaseException") = some true)
    (eve5 : PySem.W.subIn K (.ref C_NoClause) (.type "ValueError") = some true)
    (ety5 : PySem.W.typeIn K (.ref C_NoClause) = some (.type "type"))
    (ehd5 : PySem.W.hasDictIn K C_NoClause = true)
    (eic5 : PySem.W.isClsIn K C_NoClause = true)
    (ess5 : PySem.W.subIn K (.ref C_NoClause) (.ref C_NoClause) = some true)
    (eup5 : PySem.W.ks_superIn K C_NoClause C_NoClause "__init__" = some (some (.builtin "ValueError.__init__")))
    (emr5 : PySem.W.mroIn K C_NoClause (.ref C_NoClause) = some true)
    (emo5 : PySem.W.mroIn K C_NoClause (.type "object") = some true)
    (elf5 : K.lookup i_NoClause = some ⟨oce_5, ode_5, .func (PySem.W.ksFn "__init__" ("NoClause" ++ ".__init__") ea_NoClause eb_NoClause (scope1 "number") .none .none dce_5 pme_5 ane_5 (.ref cda5) cte_5 cc5), sle_5⟩)
    (ecd5 : PySem.W.codeIn K (.ref cda5) ("NoClause" ++ ".__init__") = true)
    (elc5 : K.lookup cda5 = some ⟨ccl_5, cdd_5, .fields vs_5, ccs_5⟩)
    (evs5 : vs_5[2]? = some (.str file_5 tf_5))
    (efi5 : (l.prog.main.file == file_5) = true)
    (ece5 : K.lookup cc5 = some ⟨cl_5, cld_5, .cell (some (.ref C_NoClause)), csl_5⟩)
    (eg6 : PySem.W.nsIn K mainGlobals "BadNumber" = some (some (.ref C_BadNumber)))
    (el6 : K.lookup C_BadNumber = some (excClassObj n_6 q_6 C_BadNumber N_6 bs_6 bm_6 true sn_6 sub_6 ab_6 col_6 dd_6 w0_6 w1_6 w2_6 w3_6 w5_6 "ValueError.__new__"))
    (er6 : PySem.HandSPX.refsVE bm_6 = true)
    (esa6 : PySem.W.findIn K (.ref C_BadNumber) "__setattr__" = some (some (.builtin "object.__setattr__")))
    (ega6 : PySem.W.findIn K (.ref C_BadNumber) "__getattribute__" = some (some (.builtin "BaseException.__getattribute__")))
    (egg6 : PySem.W.findIn K (.ref C_BadNumber) "__getattr__" = some none)
    (ein6 : PySem.W.findIn K (.ref C_BadNumber) "__init__" = some (some (.ref i_BadNumber)))
    (ecl6 : PySem.W.findIn K (.ref C_BadNumber) "__class__" = some (some (.builtin "object.__class__")))
    (efn6 : PySem.W.findIn K (.ref C_BadNumber) "number" = some none)
    (eti6 : PySem.W.typeIn K (.ref i_BadNumber) = some (.type "function"))
    (ekc6 : PySem.W.keepIn K (.ref C_BadNumber) = true)
    (ebe6 : PySem.W.subIn K (.ref C_BadNumber) (.type "BaseException") = some true)
    (eve6 : PySem.W.subIn K (.ref C_BadNumber) (.type "ValueError") = some true)
    (ety6 : PySem.W.typeIn K (.ref C_BadNumber) = some (.type "type"))
    (ehd6 : PySem.W.hasDictIn K C_BadNumber = true)
    (eic6 : PySem.W.isClsIn K C_BadNumber = true)
    (ess6 : PySem.W.subIn K (.ref C_BadNumber) (.ref C_BadNumber) = some true)
    (eup6 : PySem.W.ks_superIn K C_BadNumber C_BadNumber "__init__" = some (some (.builtin "ValueError.__init__")))
    (emr6 : PySem.W.mroIn K C_BadNumber (.ref C_BadNumber) = some true)
    (emo6 : PySem.W.mroIn K C_BadNumber (.type "object") = some true)
    (elf6 : K.lookup i_BadNumber = some ⟨oce_6, ode_6, .func (PySem.W.ksFn "__init__" ("BadNumber" ++ ".__init__") ea_BadNumber eb_BadNumber (scope1 "number") .none .none dce_6 pme_6 ane_6 (.ref cda6) cte_6 cc6), sle_6⟩)
    (ecd6 : PySem.W.codeIn K (.ref cda6) ("BadNumber" ++ ".__init__") = true)
    (elc6 : K.lookup cda6 = some ⟨ccl_6, cdd_6, .fields vs_6, ccs_6⟩)
    (evs6 : vs_6[2]? = some (.str file_6 tf_6))
    (efi6 : (l.prog.main.file == file_6) = true)
    (ece6 : K.lookup cc6 = some ⟨cl_6, cld_6, .cell (some (.ref C_BadNumber)), csl_6⟩)
    (kt0 : PySem.W.kitOne K (.ref C_BadLiteral) (.ref C_BadLiteral) = some true)
    (kt1 : PySem.W.kitOne K (.ref C_BadLiteral) (.ref C_BadNumber) = some false)
    (kt2 : PySem.W.kitOne K (.ref C_BadLiteral) (.ref C_HornError) = some true)
    (kt3 : PySem.W.kitOne K (.ref C_BadLiteral) (.ref C_TooMany) = some false)
    (kt4 : PySem.W.kitOne K (.ref C_BadLiteral) (.type "ValueError") = some true)
    (kt5 : PySem.W.kitOne K (.ref C_BadText) (.ref C_BadLiteral) = some false)
    (kt6 : PySem.W.kitOne K (.ref C_BadText) (.ref C_BadNumber) = some false)
    (kt7 : PySem.W.kitOne K (.ref C_BadText) (.ref C_HornError) = some true)
    (kt8 : PySem.W.kitOne K (.ref C_BadText) (.ref C_TooMany) = some false)
    (kt9 : PySem.W.kitOne K (.ref C_BadText) (.type "ValueError") = some true)
    (kt10 : PySem.W.kitOne K (.ref C_BothSigns) (.ref C_BadLiteral) = some false)
    (kt11 : PySem.W.kitOne K (.ref C_BothSigns) (.ref C_BadNumber) = some false)
    (kt12 : PySem.W.kitOne K (.ref C_BothSigns) (.ref C_HornError) = some true)
    (kt13 : PySem.W.kitOne K (.ref C_BothSigns) (.ref C_TooMany) = some false)
    (kt14 : PySem.W.kitOne K (.ref C_BothSigns) (.type "ValueError") = some true)
    (kt15 : PySem.W.kitOne K (.ref C_TooMany) (.ref C_BadLiteral) = some false)
    (kt16 : PySem.W.kitOne K (.ref C_TooMany) (.ref C_BadNumber) = some false)
    (kt17 : PySem.W.kitOne K (.ref C_TooMany) (.ref C_HornError) = some true)
    (kt18 : PySem.W.kitOne K (.ref C_TooMany) (.ref C_TooMany) = some true)
    (kt19 : PySem.W.kitOne K (.ref C_TooMany) (.type "ValueError") = some true)
    (kt20 : PySem.W.kitOne K (.ref C_NoClause) (.ref C_BadLiteral) = some false)
    (kt21 : PySem.W.kitOne K (.ref C_NoClause) (.ref C_BadNumber) = some false)
    (kt22 : PySem.W.kitOne K (.ref C_NoClause) (.ref C_HornError) = some true)
    (kt23 : PySem.W.kitOne K (.ref C_NoClause) (.ref C_TooMany) = some false)
    (kt24 : PySem.W.kitOne K (.ref C_NoClause) (.type "ValueError") = some true)
    (kt25 : PySem.W.kitOne K (.ref C_BadNumber) (.ref C_BadLiteral) = some false)
    (kt26 : PySem.W.kitOne K (.ref C_BadNumber) (.ref C_BadNumber) = some true)
    (kt27 : PySem.W.kitOne K (.ref C_BadNumber) (.ref C_HornError) = some true)
    (kt28 : PySem.W.kitOne K (.ref C_BadNumber) (.ref C_TooMany) = some false)
    (kt29 : PySem.W.kitOne K (.ref C_BadNumber) (.type "ValueError") = some true)
    (sun_BothSigns_BadLiteral : PySem.W.subIn K (.ref C_BothSigns) (.ref C_BadLiteral) = some false)
    (sun_TooMany_BadLiteral : PySem.W.subIn K (.ref C_TooMany) (.ref C_BadLiteral) = some false)
    (sun_TooMany_BothSigns : PySem.W.subIn K (.ref C_TooMany) (.ref C_BothSigns) = some false)
    (sun_BadLiteral_BothSigns : PySem.W.subIn K (.ref C_BadLiteral) (.ref C_BothSigns) = some false)
    (sun_BadLiteral_TooMany : PySem.W.subIn K (.ref C_BadLiteral) (.ref C_TooMany) = some false)
    (sun_BothSigns_TooMany : PySem.W.subIn K (.ref C_BothSigns) (.ref C_TooMany) = some false)
    (sun_BadNumber_TooMany : PySem.W.subIn K (.ref C_BadNumber) (.ref C_TooMany) = some false)
    (sun_TooMany_BadNumber : PySem.W.subIn K (.ref C_TooMany) (.ref C_BadNumber) = some false)
    (sun_BadText_BadLiteral : PySem.W.subIn K (.ref C_BadText) (.ref C_BadLiteral) = some false)
    (sun_BadText_BadNumber : PySem.W.subIn K (.ref C_BadText) (.ref C_BadNumber) = some false)
    (sun_BadText_TooMany : PySem.W.subIn K (.ref C_BadText) (.ref C_TooMany) = some false)
    (z0 : PySem.W.nsIn K mainGlobals "NotImplemented" = some none)
    (z1 : PySem.W.nsIn K mainGlobals "ValueError" = some none)
    (z2 : PySem.W.nsIn K mainGlobals "all" = some none)
    (z3 : PySem.W.nsIn K mainGlobals "any" = some none)
    (z4 : PySem.W.nsIn K mainGlobals "bool" = some none)
    (z5 : PySem.W.nsIn K mainGlobals "classmethod" = some none)
    (z6 : PySem.W.nsIn K mainGlobals "enumerate" = some none)
    (z7 : PySem.W.nsIn K mainGlobals "int" = some none)
    (z8 : PySem.W.nsIn K mainGlobals "isinstance" = some none)
    (z9 : PySem.W.nsIn K mainGlobals "iter" = some none)
    (z10 : PySem.W.nsIn K mainGlobals "len" = some none)
    (z11 : PySem.W.nsIn K mainGlobals "list" = some none)
    (z12 : PySem.W.nsIn K mainGlobals "max" = some none)
    (z13 : PySem.W.nsIn K mainGlobals "property" = some none)
    (z14 : PySem.W.nsIn K mainGlobals "range" = some none)
    (z15 : PySem.W.nsIn K mainGlobals "set" = some none)
    (z16 : PySem.W.nsIn K mainGlobals "sorted" = some none)
    (z17 : PySem.W.nsIn K mainGlobals "str" = some none)
    (zsu : PySem.W.nsIn K mainGlobals "super" = some none)
    (z19 : PySem.W.nsIn K mainGlobals "tuple" = some none)
    (zop : PySem.W.nsIn K cStatics "thirdparty.any" = some none)
    (zsp : PySem.W.specialIn K (.builtin "object.__class__") "__get__" = some (some (.builtin "getset_descriptor.__get__")))
    (ztk : PySem.W.takesIn K (.builtin "object.__class__") = some true)
    (znm : (l.prog.main.scope.names.lookup ("super" : Str)).isSome = false)
    : ∃ fd : FuncData, (∀ (s : Shared) (v : Value), BindsTo s fd ⟨[v], []⟩ [("_law_script", v)]) ∧ ∀ base : Heap, K.In base → base.Ns mainGlobals mg → FnOk l.prog w K mg base CX0 20 fa fd ["_law_script"] (spLaw K) := by
  have e := hfa.symm.trans (PySem.W.mg_of X G a62)
  cases e
  have cl0 : Cls K C_Clause := ⟨cpg0, chd0, cpo0, csa0⟩
  have cl1 : Cls K C_Book := ⟨cpg1, chd1, cpo1, csa1⟩
  have F0 := fun_mk (st := s_is_name) l0 c0 k0
  have b0 := F0.binds (ps := ["text"]) fun _ _ _ _ _ _ us hl => match us, hl with | [_], _ => rfl
  have F1 := fun_mk (st := s_is_literal) l1 c1 k1
  have b1 := F1.binds (ps := ["text"]) fun _ _ _ _ _ _ us hl => match us, hl with | [_], _ => rfl
  have F2 := fun_mk (st := s_check_literal) l2 c2 k2
  have b2 := F2.binds (ps := ["text"]) fun _ _ _ _ _ _ us hl => match us, hl with | [_], _ => rfl
  have F3 := fun_mk (st := s_name_of) l3 c3 k3
  have b3 := F3.binds (ps := ["literal"]) fun _ _ _ _ _ _ us hl => match us, hl with | [_], _ => rfl
  have F4 := fun_mk (st := s_is_positive) l4 c4 k4
  have b4 := F4.binds (ps := ["literal"]) fun _ _ _ _ _ _ us hl => match us, hl with | [_], _ => rfl
  have F5 := fun_mk (st := s_negated) l5 c5 k5
  have b5 := F5.binds (ps := ["literal"]) fun _ _ _ _ _ _ us hl => match us, hl with | [_], _ => rfl
  have F6 := fun_mk (st := s_both_signs) l6 c6 k6
  have b6 := F6.binds (ps := ["names"]) fun _ _ _ _ _ _ us hl => match us, hl with | [_], _ => rfl
  have F7 := fun_mk (st := s_in_order) l7 c7 k7
  have b7 := F7.binds (ps := ["literals"]) fun _ _ _ _ _ _ us hl => match us, hl with | [_], _ => rfl
  have F8 := fun_mk (st := s_check_signs) l8 c8 k8
  have b8 := F8.binds (ps := ["ordered"]) fun _ _ _ _ _ _ us hl => match us, hl with | [_], _ => rfl
  have F9 := fun_mk (st := s_Clause_init) l9 c9 k9
  have F10 := fun_mk (st := s_Clause_names) l10 c10 k10
  have b10 := F10.binds (ps := ["self"]) fun _ _ _ _ _ _ us hl => match us, hl with | [_], _ => rfl
  have F11 := fun_mk (st := s_Clause_eq) l11 c11 k11
  have b11 := F11.binds (ps := ["self", "other"]) fun _ _ _ _ _ _ us hl => match us, hl with | [_, _], _ => rfl
  have F12 := fun_mk (st := s_Clause_str) l12 c12 k12
  have b12 := F12.binds (ps := ["self"]) fun _ _ _ _ _ _ us hl => match us, hl with | [_], _ => rfl
  have F13 := fun_mk (st := s_turned_literal) l13 c13 k13
  have b13 := F13.binds (ps := ["turning", "literal"]) fun _ _ _ _ _ _ us hl => match us, hl with | [_, _], _ => rfl
  have F14 := fun_mk (st := s_turned_clause) l14 c14 k14
  have b14 := F14.binds (ps := ["turning", "clause"]) fun _ _ _ _ _ _ us hl => match us, hl with | [_, _], _ => rfl
  have F15 := fun_mk (st := s__names_in) l15 c15 k15
  have b15 := F15.binds (ps := ["clauses"]) fun _ _ _ _ _ _ us hl => match us, hl with | [_], _ => rfl
  have F16 := fun_mk (st := s__check_names) l16 c16 k16
  have b16 := F16.binds (ps := ["clauses"]) fun _ _ _ _ _ _ us hl => match us, hl with | [_], _ => rfl
  have F17 := fun_mk (st := s__check_room) l17 c17 k17
  have b17 := F17.binds (ps := ["placed", "clause"]) fun _ _ _ _ _ _ us hl => match us, hl with | [_, _], _ => rfl
  have F18 := fun_mk (st := s__placed_from_one) l18 c18 k18
  have b18 := F18.binds (ps := ["clauses"]) fun _ _ _ _ _ _ us hl => match us, hl with | [_], _ => rfl
  have F19 := fun_mk (st := s__all_turned) l19 c19 k19
  have b19 := F19.binds (ps := ["placed", "turning"]) fun _ _ _ _ _ _ us hl => match us, hl with | [_, _], _ => rfl
  have F20 := fun_mk (st := s_book_of) l20 c20 k20
  have b20 := F20.binds (ps := ["placed", "last"]) fun _ _ _ _ _ _ us hl => match us, hl with | [_, _], _ => rfl
  have F21 := fun_mk (st := s_Book_init) l21 c21 k21
  have F22 := fun_mk (st := s_Book_numbered) l22 c22 k22
  have b22 := F22.binds (ps := ["cls", "pairs"]) fun _ _ _ _ _ _ us hl => match us, hl with | [_, _], _ => rfl
  have F23 := fun_mk (st := s_Book_names) l23 c23 k23
  have b23 := F23.binds (ps := ["self"]) fun _ _ _ _ _ _ us hl => match us, hl with | [_], _ => rfl
  have F24 := fun_mk (st := s_Book_next_number) l24 c24 k24
  have b24 := F24.binds (ps := ["self"]) fun _ _ _ _ _ _ us hl => match us, hl with | [_], _ => rfl
  have F25 := fun_mk (st := s_Book_iter) l25 c25 k25
  have b25 := F25.binds (ps := ["self"]) fun _ _ _ _ _ _ us hl => match us, hl with | [_], _ => rfl
  have F26 := fun_mk (st := s_Book_len) l26 c26 k26
  have b26 := F26.binds (ps := ["self"]) fun _ _ _ _ _ _ us hl => match us, hl with | [_], _ => rfl
  have F27 := fun_mk (st := s_Book_contains) l27 c27 k27
  have b27 := F27.binds (ps := ["self", "x"]) fun _ _ _ _ _ _ us hl => match us, hl with | [_, _], _ => rfl
  have F28 := fun_mk (st := s_Book_getitem) l28 c28 k28
  have b28 := F28.binds (ps := ["self", "at"]) fun _ _ _ _ _ _ us hl => match us, hl with | [_, _], _ => rfl
  have F29 := fun_mk (st := s_is_number) l29 c29 k29
  have b29 := F29.binds (ps := ["word", "most"]) fun _ _ _ _ _ _ us hl => match us, hl with | [_, _], _ => rfl
  have F30 := fun_mk (st := s__clause_in) l30 c30 k30
  have b30 := F30.binds (ps := ["text", "line"]) fun _ _ _ _ _ _ us hl => match us, hl with | [_, _], _ => rfl
  have F31 := fun_mk (st := s__pair_in) l31 c31 k31
  have b31 := F31.binds (ps := ["row", "line"]) fun _ _ _ _ _ _ us hl => match us, hl with | [_, _], _ => rfl
  have F32 := fun_mk (st := s__book_up_to) l32 c32 k32
  have b32 := F32.binds (ps := ["pairs", "line"]) fun _ _ _ _ _ _ us hl => match us, hl with | [_, _], _ => rfl
  have F33 := fun_mk (st := s_book_in) l33 c33 k33
  have b33 := F33.binds (ps := ["rows"]) fun _ _ _ _ _ _ us hl => match us, hl with | [_], _ => rfl
  have F34 := fun_mk (st := s_read_book) l34 c34 k34
  have b34 := F34.binds (ps := ["text"]) fun _ _ _ _ _ _ us hl => match us, hl with | [_], _ => rfl
  have F35 := fun_mk (st := s_clause_text) l35 c35 k35
  have b35 := F35.binds (ps := ["clause"]) fun _ _ _ _ _ _ us hl => match us, hl with | [_], _ => rfl
  have F36 := fun_mk (st := s_book_lines) l36 c36 k36
  have b36 := F36.binds (ps := ["book"]) fun _ _ _ _ _ _ us hl => match us, hl with | [_], _ => rfl
  have F37 := fun_mk (st := s_book_text) l37 c37 k37
  have b37 := F37.binds (ps := ["book"]) fun _ _ _ _ _ _ us hl => match us, hl with | [_], _ => rfl
  have F38 := fun_mk (st := s__law_source) l38 c38 k38
  have b38 := F38.binds (ps := ["_law_script"]) fun _ _ _ _ _ _ us hl => match us, hl with | [_], _ => rfl
  have F39 := fun_mk (st := s__law_take) l39 c39 k39
  have b39 := F39.binds (ps := ["_law_source_here", "_law_many"]) fun _ _ _ _ _ _ us hl => match us, hl with | [_, _], _ => rfl
  have F40 := fun_mk (st := s__law_word) l40 c40 k40
  have b40 := F40.binds (ps := ["_law_source_here", "_law_size"]) fun _ _ _ _ _ _ us hl => match us, hl with | [_, _], _ => rfl
  have F41 := fun_mk (st := s__law_names) l41 c41 k41
  have b41 := F41.binds (ps := ["_law_source_here", "_law_many"]) fun _ _ _ _ _ _ us hl => match us, hl with | [_, _], _ => rfl
  have F42 := fun_mk (st := s__law_flip) l42 c42 k42
  have b42 := F42.binds (ps := ["_law_literal"]) fun _ _ _ _ _ _ us hl => match us, hl with | [_], _ => rfl
  have F43 := fun_mk (st := s__law_name) l43 c43 k43
  have b43 := F43.binds (ps := ["_law_literal"]) fun _ _ _ _ _ _ us hl => match us, hl with | [_], _ => rfl
  have F44 := fun_mk (st := s__law_sorted) l44 c44 k44
  have b44 := F44.binds (ps := ["_law_names_here"]) fun _ _ _ _ _ _ us hl => match us, hl with | [_], _ => rfl
  have F45 := fun_mk (st := s__law_ordered) l45 c45 k45
  have b45 := F45.binds (ps := ["_law_literals"]) fun _ _ _ _ _ _ us hl => match us, hl with | [_], _ => rfl
  have F46 := fun_mk (st := s__law_same) l46 c46 k46
  have b46 := F46.binds (ps := ["_law_one", "_law_other"]) fun _ _ _ _ _ _ us hl => match us, hl with | [_, _], _ => rfl
  have F47 := fun_mk (st := s__law_row) l47 c47 k47
  have b47 := F47.binds (ps := ["_law_source_here", "_law_names_here", "_law_most"]) fun _ _ _ _ _ _ us hl => match us, hl with | [_, _, _], _ => rfl
  have F48 := fun_mk (st := s__law_numbers) l48 c48 k48
  have b48 := F48.binds (ps := ["_law_source_here", "_law_many"]) fun _ _ _ _ _ _ us hl => match us, hl with | [_, _], _ => rfl
  have F49 := fun_mk (st := s__law_names_in) l49 c49 k49
  have b49 := F49.binds (ps := ["_law_rows"]) fun _ _ _ _ _ _ us hl => match us, hl with | [_], _ => rfl
  have F50 := fun_mk (st := s__law_bad) l50 c50 k50
  have b50 := F50.binds (ps := ["_law_source_here", "_law_name_here"]) fun _ _ _ _ _ _ us hl => match us, hl with | [_, _], _ => rfl
  have F51 := fun_mk (st := s__law_is_name) l51 c51 k51
  have b51 := F51.binds (ps := ["_law_text"]) fun _ _ _ _ _ _ us hl => match us, hl with | [_], _ => rfl
  have F52 := fun_mk (st := s__law_row_of) l52 c52 k52
  have b52 := F52.binds (ps := ["_law_text"]) fun _ _ _ _ _ _ us hl => match us, hl with | [_], _ => rfl
  have F53 := fun_mk (st := s__law_number_of) l53 c53 k53
  have b53 := F53.binds (ps := ["_law_text"]) fun _ _ _ _ _ _ us hl => match us, hl with | [_], _ => rfl
  have F54 := fun_mk (st := s__law_judged) l54 c54 k54
  have b54 := F54.binds (ps := ["_law_text"]) fun _ _ _ _ _ _ us hl => match us, hl with | [_], _ => rfl
  have F55 := fun_mk (st := s__law_state) l55 c55 k55
  have b55 := F55.binds (ps := ["_law_book", "_law_numbers_here", "_law_rows", "_law_coming"]) fun _ _ _ _ _ _ us hl => match us, hl with | [_, _, _, _], _ => rfl
  have F56 := fun_mk (st := s__law_refused) l56 c56 k56
  have b56 := F56.binds (ps := ["_law_text", "_law_line"]) fun _ _ _ _ _ _ us hl => match us, hl with | [_, _], _ => rfl
  have F57 := fun_mk (st := s__law_right) l57 c57 k57
  have b57 := F57.binds (ps := ["_law_text"]) fun _ _ _ _ _ _ us hl => match us, hl with | [_], _ => rfl
  have F58 := fun_mk (st := s__law_lines) l58 c58 k58
  have b58 := F58.binds (ps := ["_law_numbers_here", "_law_rows"]) fun _ _ _ _ _ _ us hl => match us, hl with | [_, _], _ => rfl
  have F59 := fun_mk (st := s__law_other_clause) l59 c59 k59
  have b59 := F59.binds (ps := ["_law_source_here", "_law_row_here", "_law_names_here", "_law_style"]) fun _ _ _ _ _ _ us hl => match us, hl with | [_, _, _, _], _ => rfl
  have F60 := fun_mk (st := s__law_other_line) l60 c60 k60
  have b60 := F60.binds (ps := ["_law_source_here", "_law_number", "_law_before", "_law_rest", "_law_style"]) fun _ _ _ _ _ _ us hl => match us, hl with | [_, _, _, _, _], _ => rfl
  have F61 := fun_mk (st := s__law_spoilt) l61 c61 k61
  have b61 := F61.binds (ps := ["_law_source_here", "_law_numbers_here", "_law_rows", "_law_names_here"]) fun _ _ _ _ _ _ us hl => match us, hl with | [_, _, _, _], _ => rfl
  have F62 := fun_mk (st := s_law) l62 c62 k62
  have b62 := F62.binds (ps := ["_law_script"]) fun _ _ _ _ _ _ us hl => match us, hl with | [_], _ => rfl
  have E_BadLiteral : Cls1 l.prog K mg "BadLiteral" C_BadLiteral i_BadLiteral ea_BadLiteral eb_BadLiteral (scope1 "text") := { gC := PySem.W.mg_of X G eg1, cls := ⟨n_1, q_1, N_1, bs_1, bm_1, sn_1, sub_1, ab_1, col_1, dd_1, w0_1, w1_1, w2_1, w3_1, w5_1, el1, er1⟩, sa := esa1, ga := ega1, gg := egg1, iC := ein1, tC := eti1, kC := ekc1, exC := ebe1, veC := eve1, tyC := ety1, hdC := ehd1, te := exm_self ebe1 eic1 ety1 ess1, up := eup1, self := emr1, op := zop, noS := PySem.W.mg_none_of X G zsu, fn := ⟨oce_1, ode_1, dce_1, pme_1, ane_1, cda1, cc1, cte_1, sle_1, ccl_1, cl_1, cdd_1, cld_1, vs_1, ccs_1, csl_1, file_1, tf_1, elf1, ecd1, elc1, evs1, efi1, ece1⟩, noM := znm }
  have X_BadLiteral : ExcC K C_BadLiteral := ⟨ega1, egg1, ebe1, ehd1, ecl1, zsp, ztk, emo1⟩
  have E_BadText : Cls1 l.prog K mg "BadText" C_BadText i_BadText ea_BadText eb_BadText (scope1 "line") := { gC := PySem.W.mg_of X G eg2, cls := ⟨n_2, q_2, N_2, bs_2, bm_2, sn_2, sub_2, ab_2, col_2, dd_2, w0_2, w1_2, w2_2, w3_2, w5_2, el2, er2⟩, sa := esa2, ga := ega2, gg := egg2, iC := ein2, tC := eti2, kC := ekc2, exC := ebe2, veC := eve2, tyC := ety2, hdC := ehd2, te := exm_self ebe2 eic2 ety2 ess2, up := eup2, self := emr2, op := zop, noS := PySem.W.mg_none_of X G zsu, fn := ⟨oce_2, ode_2, dce_2, pme_2, ane_2, cda2, cc2, cte_2, sle_2, ccl_2, cl_2, cdd_2, cld_2, vs_2, ccs_2, csl_2, file_2, tf_2, elf2, ecd2, elc2, evs2, efi2, ece2⟩, noM := znm }
  have X_BadText : ExcC K C_BadText := ⟨ega2, egg2, ebe2, ehd2, ecl2, zsp, ztk, emo2⟩
  have E_BothSigns : Cls1 l.prog K mg "BothSigns" C_BothSigns i_BothSigns ea_BothSigns eb_BothSigns (scope1 "name") := { gC := PySem.W.mg_of X G eg3, cls := ⟨n_3, q_3, N_3, bs_3, bm_3, sn_3, sub_3, ab_3, col_3, dd_3, w0_3, w1_3, w2_3, w3_3, w5_3, el3, er3⟩, sa := esa3, ga := ega3, gg := egg3, iC := ein3, tC := eti3, kC := ekc3, exC := ebe3, veC := eve3, tyC := ety3, hdC := ehd3, te := exm_self ebe3 eic3 ety3 ess3, up := eup3, self := emr3, op := zop, noS := PySem.W.mg_none_of X G zsu, fn := ⟨oce_3, ode_3, dce_3, pme_3, ane_3, cda3, cc3, cte_3, sle_3, ccl_3, cl_3, cdd_3, cld_3, vs_3, ccs_3, csl_3, file_3, tf_3, elf3, ecd3, elc3, evs3, efi3, ece3⟩, noM := znm }
  have X_BothSigns : ExcC K C_BothSigns := ⟨ega3, egg3, ebe3, ehd3, ecl3, zsp, ztk, emo3⟩
  have E_TooMany : Cls1 l.prog K mg "TooMany" C_TooMany i_TooMany ea_TooMany eb_TooMany (scope1 "limit") := { gC := PySem.W.mg_of X G eg4, cls := ⟨n_4, q_4, N_4, bs_4, bm_4, sn_4, sub_4, ab_4, col_4, dd_4, w0_4, w1_4, w2_4, w3_4, w5_4, el4, er4⟩, sa := esa4, ga := ega4, gg := egg4, iC := ein4, tC := eti4, kC := ekc4, exC := ebe4, veC := eve4, tyC := ety4, hdC := ehd4, te := exm_self ebe4 eic4 ety4 ess4, up := eup4, self := emr4, op := zop, noS := PySem.W.mg_none_of X G zsu, fn := ⟨oce_4, ode_4, dce_4, pme_4, ane_4, cda4, cc4, cte_4, sle_4, ccl_4, cl_4, cdd_4, cld_4, vs_4, ccs_4, csl_4, file_4, tf_4, elf4, ecd4, elc4, evs4, efi4, ece4⟩, noM := znm }
  have X_TooMany : ExcC K C_TooMany := ⟨ega4, egg4, ebe4, ehd4, ecl4, zsp, ztk, emo4⟩
  have E_NoClause : Cls1 l.prog K mg "NoClause" C_NoClause i_NoClause ea_NoClause eb_NoClause (scope1 "number") := { gC := PySem.W.mg_of X G eg5, cls := ⟨n_5, q_5, N_5, bs_5, bm_5, sn_5, sub_5, ab_5, col_5, dd_5, w0_5, w1_5, w2_5, w3_5, w5_5, el5, er5⟩, sa := esa5, ga := ega5, gg := egg5, iC := ein5, tC := eti5, kC := ekc5, exC := ebe5, veC := eve5, tyC := ety5, hdC := ehd5, te := exm_self ebe5 eic5 ety5 ess5, up := eup5, self := emr5, op := zop, noS := PySem.W.mg_none_of X G zsu, fn := ⟨oce_5, ode_5, dce_5, pme_5, ane_5, cda5, cc5, cte_5, sle_5, ccl_5, cl_5, cdd_5, cld_5, vs_5, ccs_5, csl_5, file_5, tf_5, elf5, ecd5, elc5, evs5, efi5, ece5⟩, noM := znm }
  have X_NoClause : ExcC K C_NoClause := ⟨ega5, egg5, ebe5, ehd5, ecl5, zsp, ztk, emo5⟩
  have E_BadNumber : Cls1 l.prog K mg "BadNumber" C_BadNumber i_BadNumber ea_BadNumber eb_BadNumber (scope1 "number") := { gC := PySem.W.mg_of X G eg6, cls := ⟨n_6, q_6, N_6, bs_6, bm_6, sn_6, sub_6, ab_6, col_6, dd_6, w0_6, w1_6, w2_6, w3_6, w5_6, el6, er6⟩, sa := esa6, ga := ega6, gg := egg6, iC := ein6, tC := eti6, kC := ekc6, exC := ebe6, veC := eve6, tyC := ety6, hdC := ehd6, te := exm_self ebe6 eic6 ety6 ess6, up := eup6, self := emr6, op := zop, noS := PySem.W.mg_none_of X G zsu, fn := ⟨oce_6, ode_6, dce_6, pme_6, ane_6, cda6, cc6, cte_6, sle_6, ccl_6, cl_6, cdd_6, cld_6, vs_6, ccs_6, csl_6, file_6, tf_6, elf6, ecd6, elc6, evs6, efi6, ece6⟩, noM := znm }
  have X_BadNumber : ExcC K C_BadNumber := ⟨ega6, egg6, ebe6, ehd6, ecl6, zsp, ztk, emo6⟩
  let T : Txt l.prog K mg := { C_Clause := C_Clause, g_Clause := PySem.W.mg_of X G cg0, cl_Clause := cl0, mi_Clause := cmi0, kc_Clause := ckc0, ins_Clause := ⟨cl0, cha0, zsp, ztk, cmo0, cme0⟩, na_Clause_literals := cna0_0, C_Book := C_Book, g_Book := PySem.W.mg_of X G cg1, cl_Book := cl1, mi_Book := cmi1, kc_Book := ckc1, ins_Book := ⟨cl1, cha1, zsp, ztk, cmo1, cme1⟩, na_Book__placed := cna1_0, na_Book__last := cna1_1, om_Book := om_Book, om_Clause := om_Clause, kt_str_Clause := ckt0, R_Clause := ⟨cvr_Clause, cvg_Clause⟩, V_Clause_LIMIT := ⟨_, cvf_Clause_LIMIT, ⟨_, rfl⟩⟩, R_Book := ⟨cvr_Book, cvg_Book⟩, V_Book_LIMIT := ⟨_, cvf_Book_LIMIT, ⟨_, rfl⟩⟩, V_Book_NAMES := ⟨_, cvf_Book_NAMES, ⟨_, rfl⟩⟩, V_Book_NUMBERS := ⟨_, cvf_Book_NUMBERS, ⟨_, rfl⟩⟩, f_is_name := f0, d_is_name := _, F_is_name := F0, b_is_name := b0, g_is_name := PySem.W.mg_of X G a0, f_is_literal := f1, d_is_literal := _, F_is_literal := F1, b_is_literal := b1, g_is_literal := PySem.W.mg_of X G a1, f_check_literal := f2, d_check_literal := _, F_check_literal := F2, b_check_literal := b2, g_check_literal := PySem.W.mg_of X G a2, f_name_of := f3, d_name_of := _, F_name_of := F3, b_name_of := b3, g_name_of := PySem.W.mg_of X G a3, f_is_positive := f4, d_is_positive := _, F_is_positive := F4, b_is_positive := b4, g_is_positive := PySem.W.mg_of X G a4, f_negated := f5, d_negated := _, F_negated := F5, b_negated := b5, g_negated := PySem.W.mg_of X G a5, f_both_signs := f6, d_both_signs := _, F_both_signs := F6, b_both_signs := b6, g_both_signs := PySem.W.mg_of X G a6, f_in_order := f7, d_in_order := _, F_in_order := F7, b_in_order := b7, g_in_order := PySem.W.mg_of X G a7, f_check_signs := f8, d_check_signs := _, F_check_signs := F8, b_check_signs := b8, g_check_signs := PySem.W.mg_of X G a8, m_Clause_init := a9, i_Clause_init := if9, f_Clause_init := f9, d_Clause_init := _, F_Clause_init := F9, p_Clause_names := pp10, P_Clause_names := ⟨a10, pg10, pt10, ⟨_, pr10⟩⟩, f_Clause_names := f10, d_Clause_names := _, F_Clause_names := F10, b_Clause_names := b10, m_Clause_eq := a11, i_Clause_eq := if11, f_Clause_eq := f11, d_Clause_eq := _, F_Clause_eq := F11, b_Clause_eq := b11, m_Clause_str := a12, i_Clause_str := if12, f_Clause_str := f12, d_Clause_str := _, F_Clause_str := F12, b_Clause_str := b12, f_turned_literal := f13, d_turned_literal := _, F_turned_literal := F13, b_turned_literal := b13, g_turned_literal := PySem.W.mg_of X G a13, f_turned_clause := f14, d_turned_clause := _, F_turned_clause := F14, b_turned_clause := b14, g_turned_clause := PySem.W.mg_of X G a14, f__names_in := f15, d__names_in := _, F__names_in := F15, b__names_in := b15, g__names_in := PySem.W.mg_of X G a15, f__check_names := f16, d__check_names := _, F__check_names := F16, b__check_names := b16, g__check_names := PySem.W.mg_of X G a16, f__check_room := f17, d__check_room := _, F__check_room := F17, b__check_room := b17, g__check_room := PySem.W.mg_of X G a17, f__placed_from_one := f18, d__placed_from_one := _, F__placed_from_one := F18, b__placed_from_one := b18, g__placed_from_one := PySem.W.mg_of X G a18, f__all_turned := f19, d__all_turned := _, F__all_turned := F19, b__all_turned := b19, g__all_turned := PySem.W.mg_of X G a19, f_book_of := f20, d_book_of := _, F_book_of := F20, b_book_of := b20, g_book_of := PySem.W.mg_of X G a20, m_Book_init := a21, i_Book_init := if21, f_Book_init := f21, d_Book_init := _, F_Book_init := F21, p_Book_numbered := sp22, M_Book_numbered := ⟨sf22, ⟨_, sr22⟩, sk22⟩, f_Book_numbered := f22, d_Book_numbered := _, F_Book_numbered := F22, b_Book_numbered := b22, p_Book_names := pp23, P_Book_names := ⟨a23, pg23, pt23, ⟨_, pr23⟩⟩, f_Book_names := f23, d_Book_names := _, F_Book_names := F23, b_Book_names := b23, p_Book_next_number := pp24, P_Book_next_number := ⟨a24, pg24, pt24, ⟨_, pr24⟩⟩, f_Book_next_number := f24, d_Book_next_number := _, F_Book_next_number := F24, b_Book_next_number := b24, m_Book_iter := a25, i_Book_iter := if25, f_Book_iter := f25, d_Book_iter := _, F_Book_iter := F25, b_Book_iter := b25, m_Book_len := a26, i_Book_len := if26, f_Book_len := f26, d_Book_len := _, F_Book_len := F26, b_Book_len := b26, m_Book_contains := a27, i_Book_contains := if27, f_Book_contains := f27, d_Book_contains := _, F_Book_contains := F27, b_Book_contains := b27, m_Book_getitem := a28, i_Book_getitem := if28, f_Book_getitem := f28, d_Book_getitem := _, F_Book_getitem := F28, b_Book_getitem := b28, f_is_number := f29, d_is_number := _, F_is_number := F29, b_is_number := b29, g_is_number := PySem.W.mg_of X G a29, f__clause_in := f30, d__clause_in := _, F__clause_in := F30, b__clause_in := b30, g__clause_in := PySem.W.mg_of X G a30, f__pair_in := f31, d__pair_in := _, F__pair_in := F31, b__pair_in := b31, g__pair_in := PySem.W.mg_of X G a31, f__book_up_to := f32, d__book_up_to := _, F__book_up_to := F32, b__book_up_to := b32, g__book_up_to := PySem.W.mg_of X G a32, f_book_in := f33, d_book_in := _, F_book_in := F33, b_book_in := b33, g_book_in := PySem.W.mg_of X G a33, f_read_book := f34, d_read_book := _, F_read_book := F34, b_read_book := b34, g_read_book := PySem.W.mg_of X G a34, f_clause_text := f35, d_clause_text := _, F_clause_text := F35, b_clause_text := b35, g_clause_text := PySem.W.mg_of X G a35, f_book_lines := f36, d_book_lines := _, F_book_lines := F36, b_book_lines := b36, g_book_lines := PySem.W.mg_of X G a36, f_book_text := f37, d_book_text := _, F_book_text := F37, b_book_text := b37, g_book_text := PySem.W.mg_of X G a37, f__law_source := f38, d__law_source := _, F__law_source := F38, b__law_source := b38, g__law_source := PySem.W.mg_of X G a38, f__law_take := f39, d__law_take := _, F__law_take := F39, b__law_take := b39, g__law_take := PySem.W.mg_of X G a39, f__law_word := f40, d__law_word := _, F__law_word := F40, b__law_word := b40, g__law_word := PySem.W.mg_of X G a40, f__law_names := f41, d__law_names := _, F__law_names := F41, b__law_names := b41, g__law_names := PySem.W.mg_of X G a41, f__law_flip := f42, d__law_flip := _, F__law_flip := F42, b__law_flip := b42, g__law_flip := PySem.W.mg_of X G a42, f__law_name := f43, d__law_name := _, F__law_name := F43, b__law_name := b43, g__law_name := PySem.W.mg_of X G a43, f__law_sorted := f44, d__law_sorted := _, F__law_sorted := F44, b__law_sorted := b44, g__law_sorted := PySem.W.mg_of X G a44, f__law_ordered := f45, d__law_ordered := _, F__law_ordered := F45, b__law_ordered := b45, g__law_ordered := PySem.W.mg_of X G a45, f__law_same := f46, d__law_same := _, F__law_same := F46, b__law_same := b46, g__law_same := PySem.W.mg_of X G a46, f__law_row := f47, d__law_row := _, F__law_row := F47, b__law_row := b47, g__law_row := PySem.W.mg_of X G a47, f__law_numbers := f48, d__law_numbers := _, F__law_numbers := F48, b__law_numbers := b48, g__law_numbers := PySem.W.mg_of X G a48, f__law_names_in := f49, d__law_names_in := _, F__law_names_in := F49, b__law_names_in := b49, g__law_names_in := PySem.W.mg_of X G a49, f__law_bad := f50, d__law_bad := _, F__law_bad := F50, b__law_bad := b50, g__law_bad := PySem.W.mg_of X G a50, f__law_is_name := f51, d__law_is_name := _, F__law_is_name := F51, b__law_is_name := b51, g__law_is_name := PySem.W.mg_of X G a51, f__law_row_of := f52, d__law_row_of := _, F__law_row_of := F52, b__law_row_of := b52, g__law_row_of := PySem.W.mg_of X G a52, f__law_number_of := f53, d__law_number_of := _, F__law_number_of := F53, b__law_number_of := b53, g__law_number_of := PySem.W.mg_of X G a53, f__law_judged := f54, d__law_judged := _, F__law_judged := F54, b__law_judged := b54, g__law_judged := PySem.W.mg_of X G a54, f__law_state := f55, d__law_state := _, F__law_state := F55, b__law_state := b55, g__law_state := PySem.W.mg_of X G a55, f__law_refused := f56, d__law_refused := _, F__law_refused := F56, b__law_refused := b56, g__law_refused := PySem.W.mg_of X G a56, f__law_right := f57, d__law_right := _, F__law_right := F57, b__law_right := b57, g__law_right := PySem.W.mg_of X G a57, f__law_lines := f58, d__law_lines := _, F__law_lines := F58, b__law_lines := b58, g__law_lines := PySem.W.mg_of X G a58, f__law_other_clause := f59, d__law_other_clause := _, F__law_other_clause := F59, b__law_other_clause := b59, g__law_other_clause := PySem.W.mg_of X G a59, f__law_other_line := f60, d__law_other_line := _, F__law_other_line := F60, b__law_other_line := b60, g__law_other_line := PySem.W.mg_of X G a60, f__law_spoilt := f61, d__law_spoilt := _, F__law_spoilt := F61, b__law_spoilt := b61, g__law_spoilt := PySem.W.mg_of X G a61, f_law := fa, d_law := _, F_law := F62, b_law := b62, g_law := PySem.W.mg_of X G a62, t_LETTERS := tk0, v_LETTERS := PySem.W.mg_of X G v0, t_LETTERS_AND_DIGITS := tk1, v_LETTERS_AND_DIGITS := PySem.W.mg_of X G v1, t_LONGEST_NAME := tk2, v_LONGEST_NAME := PySem.W.mg_of X G v2, t_MOST_DIGITS := tk3, v_MOST_DIGITS := PySem.W.mg_of X G v3, C_HornError := C_HornError, g_HornError := PySem.W.mg_of X G eg0, C_BadLiteral := C_BadLiteral, i_BadLiteral := i_BadLiteral, E_BadLiteral := E_BadLiteral, x_BadLiteral := X_BadLiteral, o_BadLiteral := efn1, C_BadText := C_BadText, i_BadText := i_BadText, E_BadText := E_BadText, x_BadText := X_BadText, o_BadText := efn2, C_BothSigns := C_BothSigns, i_BothSigns := i_BothSigns, E_BothSigns := E_BothSigns, x_BothSigns := X_BothSigns, o_BothSigns := efn3, C_TooMany := C_TooMany, i_TooMany := i_TooMany, E_TooMany := E_TooMany, x_TooMany := X_TooMany, o_TooMany := efn4, C_NoClause := C_NoClause, i_NoClause := i_NoClause, E_NoClause := E_NoClause, x_NoClause := X_NoClause, o_NoClause := efn5, C_BadNumber := C_BadNumber, i_BadNumber := i_BadNumber, E_BadNumber := E_BadNumber, x_BadNumber := X_BadNumber, o_BadNumber := efn6, k_BadLiteral_BadLiteral := ⟨_, kt0, rfl⟩, k_BadLiteral_BadNumber := ⟨_, kt1, rfl⟩, k_BadLiteral_HornError := ⟨_, kt2, rfl⟩, k_BadLiteral_TooMany := ⟨_, kt3, rfl⟩, k_BadLiteral_ValueError := ⟨_, kt4, rfl⟩, k_BadText_BadLiteral := ⟨_, kt5, rfl⟩, k_BadText_BadNumber := ⟨_, kt6, rfl⟩, k_BadText_HornError := ⟨_, kt7, rfl⟩, k_BadText_TooMany := ⟨_, kt8, rfl⟩, k_BadText_ValueError := ⟨_, kt9, rfl⟩, k_BothSigns_BadLiteral := ⟨_, kt10, rfl⟩, k_BothSigns_BadNumber := ⟨_, kt11, rfl⟩, k_BothSigns_HornError := ⟨_, kt12, rfl⟩, k_BothSigns_TooMany := ⟨_, kt13, rfl⟩, k_BothSigns_ValueError := ⟨_, kt14, rfl⟩, k_TooMany_BadLiteral := ⟨_, kt15, rfl⟩, k_TooMany_BadNumber := ⟨_, kt16, rfl⟩, k_TooMany_HornError := ⟨_, kt17, rfl⟩, k_TooMany_TooMany := ⟨_, kt18, rfl⟩, k_TooMany_ValueError := ⟨_, kt19, rfl⟩, k_NoClause_BadLiteral := ⟨_, kt20, rfl⟩, k_NoClause_BadNumber := ⟨_, kt21, rfl⟩, k_NoClause_HornError := ⟨_, kt22, rfl⟩, k_NoClause_TooMany := ⟨_, kt23, rfl⟩, k_NoClause_ValueError := ⟨_, kt24, rfl⟩, k_BadNumber_BadLiteral := ⟨_, kt25, rfl⟩, k_BadNumber_BadNumber := ⟨_, kt26, rfl⟩, k_BadNumber_HornError := ⟨_, kt27, rfl⟩, k_BadNumber_TooMany := ⟨_, kt28, rfl⟩, k_BadNumber_ValueError := ⟨_, kt29, rfl⟩, su_BothSigns_BadLiteral := sun_BothSigns_BadLiteral, su_TooMany_BadLiteral := sun_TooMany_BadLiteral, su_TooMany_BothSigns := sun_TooMany_BothSigns, su_BadLiteral_BothSigns := sun_BadLiteral_BothSigns, su_BadLiteral_TooMany := sun_BadLiteral_TooMany, su_BothSigns_TooMany := sun_BothSigns_TooMany, su_BadNumber_TooMany := sun_BadNumber_TooMany, su_TooMany_BadNumber := sun_TooMany_BadNumber, su_BadText_BadLiteral := sun_BadText_BadLiteral, su_BadText_BadNumber := sun_BadText_BadNumber, su_BadText_TooMany := sun_BadText_TooMany, n_NotImplemented := PySem.W.mg_none_of X G z0, n_ValueError := PySem.W.mg_none_of X G z1, n_all := PySem.W.mg_none_of X G z2, n_any := PySem.W.mg_none_of X G z3, n_bool := PySem.W.mg_none_of X G z4, n_classmethod := PySem.W.mg_none_of X G z5, n_enumerate := PySem.W.mg_none_of X G z6, n_int := PySem.W.mg_none_of X G z7, n_isinstance := PySem.W.mg_none_of X G z8, n_iter := PySem.W.mg_none_of X G z9, n_len := PySem.W.mg_none_of X G z10, n_list := PySem.W.mg_none_of X G z11, n_max := PySem.W.mg_none_of X G z12, n_property := PySem.W.mg_none_of X G z13, n_range := PySem.W.mg_none_of X G z14, n_set := PySem.W.mg_none_of X G z15, n_sorted := PySem.W.mg_none_of X G z16, n_str := PySem.W.mg_none_of X G z17, n_super := PySem.W.mg_none_of X G zsu, n_tuple := PySem.W.mg_none_of X G z19 }
  exact ⟨PySem.W.fnOf "law" "law" (defArgs s_law) (defBody s_law) (defScope s_law) .none kV62 dc62 pm62 an62 cd62 ct62, fun s v => .of_eq rfl, fun base _ _ => ok_law T⟩
section
open PySem PySem.W PySem.Calls
abbrev HKR : OpenRow := OpenLaw.row PySem.Challenge.rw_renamedhorn_k21_bad_book_texts
def hchk0 (K : PySem.W.Frag) : Bool := (decide (PySem.W.nsIn K mainGlobals "Clause" = some (some (.ref (He.ga K "Clause"))))) && ((PySem.W.plainGet K (He.ga K "Clause") Str.empty) && ((PySem.W.hasDictIn K (He.ga K "Clause")) && ((PySem.W.plainOver K (He.ga K "Clause")) && ((decide (PySem.W.findIn K (.ref (He.ga K "Clause")) "__setattr__" = some (some (.builtin "object.__setattr__")))) && ((PySem.W.makesIn K (He.ga K "Clause")) && ((PySem.W.keepIn K (.ref (He.ga K "Clause"))) && ((decide (PySem.W.findIn K (.ref (He.ga K "Clause")) "__class__" = some (some (.builtin "object.__class__")))) && ((decide (PySem.W.mroIn K (He.ga K "Clause") (.type "object") = some true)) && ((decide (PySem.W.kitOne K (.ref (He.ga K "Clause")) (.ref (He.ga K "Clause")) = some true)) && ((decide (PySem.W.findIn K (.ref (He.ga K "Clause")) "literals" = some none)) && ((decide (PySem.W.nsIn K mainGlobals "Book" = some (some (.ref (He.ga K "Book"))))) && ((PySem.W.plainGet K (He.ga K "Book") Str.empty) && ((PySem.W.hasDictIn K (He.ga K "Book")) && ((PySem.W.plainOver K (He.ga K "Book")) && ((decide (PySem.W.findIn K (.ref (He.ga K "Book")) "__setattr__" = some (some (.builtin "object.__setattr__")))) && ((PySem.W.makesIn K (He.ga K "Book")) && ((PySem.W.keepIn K (.ref (He.ga K "Book"))) && ((decide (PySem.W.findIn K (.ref (He.ga K "Book")) "__class__" = some (some (.builtin "object.__class__")))) && ((decide (PySem.W.mroIn K (He.ga K "Book") (.type "object") = some true)) && ((decide (PySem.W.kitOne K (.ref (He.ga K "Book")) (.ref (He.ga K "Book")) = some true)) && ((decide (PySem.W.findIn K (.ref (He.ga K "Book")) "_placed" = some none)) && ((decide (PySem.W.findIn K (.ref (He.ga K "Book")) "_last" = some none)) && ((mro2 K (He.ga K "Book")) && (mro2 K (He.ga K "Clause")))))))))))))))))))))))))
def hchk1 (K : PySem.W.Frag) : Bool := (decide (PySem.W.kitOne K (.type "str") (.ref (He.ga K "Clause")) = some false)) && ((PySem.W.readsIn K (He.ga K "Clause") (.type "type")) && ((decide (PySem.W.specialIn K (.ref (He.ga K "Clause")) "__getattribute__" = some (some (.builtin "type.__getattribute__")))) && ((Hk.ib K (He.ga K "Clause") "LIMIT" 6) && ((PySem.W.readsIn K (He.ga K "Book") (.type "type")) && ((decide (PySem.W.specialIn K (.ref (He.ga K "Book")) "__getattribute__" = some (some (.builtin "type.__getattribute__")))) && ((Hk.ib K (He.ga K "Book") "LIMIT" 24) && ((Hk.ib K (He.ga K "Book") "NAMES" 12) && ((Hk.ib K (He.ga K "Book") "NUMBERS" 999) && ((decide (PySem.W.nsIn K mainGlobals "is_name" = some (some (.ref (He.ga K "is_name"))))) && ((Hk.fb K (He.ga K "is_name") "is_name") && ((PySem.W.keepIn K (.ref (He.ga K "is_name"))) && ((decide (PySem.W.nsIn K mainGlobals "is_literal" = some (some (.ref (He.ga K "is_literal"))))) && ((Hk.fb K (He.ga K "is_literal") "is_literal") && ((PySem.W.keepIn K (.ref (He.ga K "is_literal"))) && ((decide (PySem.W.nsIn K mainGlobals "check_literal" = some (some (.ref (He.ga K "check_literal"))))) && ((Hk.fb K (He.ga K "check_literal") "check_literal") && ((PySem.W.keepIn K (.ref (He.ga K "check_literal"))) && ((decide (PySem.W.nsIn K mainGlobals "name_of" = some (some (.ref (He.ga K "name_of"))))) && ((Hk.fb K (He.ga K "name_of") "name_of") && ((PySem.W.keepIn K (.ref (He.ga K "name_of"))) && ((decide (PySem.W.nsIn K mainGlobals "is_positive" = some (some (.ref (He.ga K "is_positive"))))) && ((Hk.fb K (He.ga K "is_positive") "is_positive") && ((PySem.W.keepIn K (.ref (He.ga K "is_positive"))) && (decide (PySem.W.nsIn K mainGlobals "negated" = some (some (.ref (He.ga K "negated"))))))))))))))))))))))))))))
def hchk2 (K : PySem.W.Frag) : Bool := (Hk.fb K (He.ga K "negated") "negated") && ((PySem.W.keepIn K (.ref (He.ga K "negated"))) && ((decide (PySem.W.nsIn K mainGlobals "both_signs" = some (some (.ref (He.ga K "both_signs"))))) && ((Hk.fb K (He.ga K "both_signs") "both_signs") && ((PySem.W.keepIn K (.ref (He.ga K "both_signs"))) && ((decide (PySem.W.nsIn K mainGlobals "in_order" = some (some (.ref (He.ga K "in_order"))))) && ((Hk.fb K (He.ga K "in_order") "in_order") && ((PySem.W.keepIn K (.ref (He.ga K "in_order"))) && ((decide (PySem.W.nsIn K mainGlobals "check_signs" = some (some (.ref (He.ga K "check_signs"))))) && ((Hk.fb K (He.ga K "check_signs") "check_signs") && ((PySem.W.keepIn K (.ref (He.ga K "check_signs"))) && ((decide (PySem.W.findIn K (.ref (He.ga K "Clause")) "__init__" = some (some (.ref (He.ma K (He.ga K "Clause") "__init__"))))) && ((Hk.fb K (He.ma K (He.ga K "Clause") "__init__") "Clause.__init__") && ((PySem.W.isFn K (.ref (He.ma K (He.ga K "Clause") "__init__"))) && ((PySem.W.keepIn K (.ref (He.ma K (He.ga K "Clause") "__init__"))) && ((decide (PySem.W.findIn K (.ref (He.ga K "Clause")) "names" = some (some (.ref (He.ma K (He.ga K "Clause") "names"))))) && ((Hk.pb K (He.ma K (He.ga K "Clause") "names") "property") && ((decide (PySem.W.specialIn K (.ref (He.ma K (He.ga K "Clause") "names")) "__get__" = some (some (.builtin "property.__get__")))) && ((decide (PySem.W.takesIn K (.ref (He.ma K (He.ga K "Clause") "names")) = some true)) && ((Hk.fb K (Hk.pa K (He.ma K (He.ga K "Clause") "names") "property") "Clause.names") && ((PySem.W.keepIn K (.ref (Hk.pa K (He.ma K (He.ga K "Clause") "names") "property"))) && ((decide (PySem.W.findIn K (.ref (He.ga K "Clause")) "__eq__" = some (some (.ref (He.ma K (He.ga K "Clause") "__eq__"))))) && ((Hk.fb K (He.ma K (He.ga K "Clause") "__eq__") "Clause.__eq__") && ((PySem.W.isFn K (.ref (He.ma K (He.ga K "Clause") "__eq__"))) && (PySem.W.keepIn K (.ref (He.ma K (He.ga K "Clause") "__eq__"))))))))))))))))))))))))))
def hchk3 (K : PySem.W.Frag) : Bool := (decide (PySem.W.findIn K (.ref (He.ga K "Clause")) "__str__" = some (some (.ref (He.ma K (He.ga K "Clause") "__str__"))))) && ((Hk.fb K (He.ma K (He.ga K "Clause") "__str__") "Clause.__str__") && ((PySem.W.isFn K (.ref (He.ma K (He.ga K "Clause") "__str__"))) && ((PySem.W.keepIn K (.ref (He.ma K (He.ga K "Clause") "__str__"))) && ((decide (PySem.W.nsIn K mainGlobals "turned_literal" = some (some (.ref (He.ga K "turned_literal"))))) && ((Hk.fb K (He.ga K "turned_literal") "turned_literal") && ((PySem.W.keepIn K (.ref (He.ga K "turned_literal"))) && ((decide (PySem.W.nsIn K mainGlobals "turned_clause" = some (some (.ref (He.ga K "turned_clause"))))) && ((Hk.fb K (He.ga K "turned_clause") "turned_clause") && ((PySem.W.keepIn K (.ref (He.ga K "turned_clause"))) && ((decide (PySem.W.nsIn K mainGlobals "_names_in" = some (some (.ref (He.ga K "_names_in"))))) && ((Hk.fb K (He.ga K "_names_in") "_names_in") && ((PySem.W.keepIn K (.ref (He.ga K "_names_in"))) && ((decide (PySem.W.nsIn K mainGlobals "_check_names" = some (some (.ref (He.ga K "_check_names"))))) && ((Hk.fb K (He.ga K "_check_names") "_check_names") && ((PySem.W.keepIn K (.ref (He.ga K "_check_names"))) && ((decide (PySem.W.nsIn K mainGlobals "_check_room" = some (some (.ref (He.ga K "_check_room"))))) && ((Hk.fb K (He.ga K "_check_room") "_check_room") && ((PySem.W.keepIn K (.ref (He.ga K "_check_room"))) && ((decide (PySem.W.nsIn K mainGlobals "_placed_from_one" = some (some (.ref (He.ga K "_placed_from_one"))))) && ((Hk.fb K (He.ga K "_placed_from_one") "_placed_from_one") && ((PySem.W.keepIn K (.ref (He.ga K "_placed_from_one"))) && ((decide (PySem.W.nsIn K mainGlobals "_all_turned" = some (some (.ref (He.ga K "_all_turned"))))) && ((Hk.fb K (He.ga K "_all_turned") "_all_turned") && (PySem.W.keepIn K (.ref (He.ga K "_all_turned"))))))))))))))))))))))))))
def hchk4 (K : PySem.W.Frag) : Bool := (decide (PySem.W.nsIn K mainGlobals "book_of" = some (some (.ref (He.ga K "book_of"))))) && ((Hk.fb K (He.ga K "book_of") "book_of") && ((PySem.W.keepIn K (.ref (He.ga K "book_of"))) && ((decide (PySem.W.findIn K (.ref (He.ga K "Book")) "__init__" = some (some (.ref (He.ma K (He.ga K "Book") "__init__"))))) && ((Hk.fb K (He.ma K (He.ga K "Book") "__init__") "Book.__init__") && ((PySem.W.isFn K (.ref (He.ma K (He.ga K "Book") "__init__"))) && ((PySem.W.keepIn K (.ref (He.ma K (He.ga K "Book") "__init__"))) && ((decide (PySem.W.findIn K (.ref (He.ga K "Book")) "numbered" = some (some (.ref (He.ma K (He.ga K "Book") "numbered"))))) && ((Hk.pb K (He.ma K (He.ga K "Book") "numbered") "classmethod") && ((Hk.gb K (He.ga K "Book") "numbered" "classmethod.__get__" (He.ma K (He.ga K "Book") "numbered")) && ((Hk.fb K (Hk.pa K (He.ma K (He.ga K "Book") "numbered") "classmethod") "Book.numbered") && ((PySem.W.fnIn K (Hk.pa K (He.ma K (He.ga K "Book") "numbered") "classmethod")) && ((PySem.W.keepIn K (.ref (Hk.pa K (He.ma K (He.ga K "Book") "numbered") "classmethod"))) && ((decide (PySem.W.findIn K (.ref (He.ga K "Book")) "names" = some (some (.ref (He.ma K (He.ga K "Book") "names"))))) && ((Hk.pb K (He.ma K (He.ga K "Book") "names") "property") && ((decide (PySem.W.specialIn K (.ref (He.ma K (He.ga K "Book") "names")) "__get__" = some (some (.builtin "property.__get__")))) && ((decide (PySem.W.takesIn K (.ref (He.ma K (He.ga K "Book") "names")) = some true)) && ((Hk.fb K (Hk.pa K (He.ma K (He.ga K "Book") "names") "property") "Book.names") && ((PySem.W.keepIn K (.ref (Hk.pa K (He.ma K (He.ga K "Book") "names") "property"))) && ((decide (PySem.W.findIn K (.ref (He.ga K "Book")) "next_number" = some (some (.ref (He.ma K (He.ga K "Book") "next_number"))))) && ((Hk.pb K (He.ma K (He.ga K "Book") "next_number") "property") && ((decide (PySem.W.specialIn K (.ref (He.ma K (He.ga K "Book") "next_number")) "__get__" = some (some (.builtin "property.__get__")))) && ((decide (PySem.W.takesIn K (.ref (He.ma K (He.ga K "Book") "next_number")) = some true)) && ((Hk.fb K (Hk.pa K (He.ma K (He.ga K "Book") "next_number") "property") "Book.next_number") && (PySem.W.keepIn K (.ref (Hk.pa K (He.ma K (He.ga K "Book") "next_number") "property"))))))))))))))))))))))))))
def hchk5 (K : PySem.W.Frag) : Bool := (decide (PySem.W.findIn K (.ref (He.ga K "Book")) "__iter__" = some (some (.ref (He.ma K (He.ga K "Book") "__iter__"))))) && ((Hk.fb K (He.ma K (He.ga K "Book") "__iter__") "Book.__iter__") && ((PySem.W.isFn K (.ref (He.ma K (He.ga K "Book") "__iter__"))) && ((PySem.W.keepIn K (.ref (He.ma K (He.ga K "Book") "__iter__"))) && ((decide (PySem.W.findIn K (.ref (He.ga K "Book")) "__len__" = some (some (.ref (He.ma K (He.ga K "Book") "__len__"))))) && ((Hk.fb K (He.ma K (He.ga K "Book") "__len__") "Book.__len__") && ((PySem.W.isFn K (.ref (He.ma K (He.ga K "Book") "__len__"))) && ((PySem.W.keepIn K (.ref (He.ma K (He.ga K "Book") "__len__"))) && ((decide (PySem.W.findIn K (.ref (He.ga K "Book")) "__contains__" = some (some (.ref (He.ma K (He.ga K "Book") "__contains__"))))) && ((Hk.fb K (He.ma K (He.ga K "Book") "__contains__") "Book.__contains__") && ((PySem.W.isFn K (.ref (He.ma K (He.ga K "Book") "__contains__"))) && ((PySem.W.keepIn K (.ref (He.ma K (He.ga K "Book") "__contains__"))) && ((decide (PySem.W.findIn K (.ref (He.ga K "Book")) "__getitem__" = some (some (.ref (He.ma K (He.ga K "Book") "__getitem__"))))) && ((Hk.fb K (He.ma K (He.ga K "Book") "__getitem__") "Book.__getitem__") && ((PySem.W.isFn K (.ref (He.ma K (He.ga K "Book") "__getitem__"))) && ((PySem.W.keepIn K (.ref (He.ma K (He.ga K "Book") "__getitem__"))) && ((decide (PySem.W.nsIn K mainGlobals "is_number" = some (some (.ref (He.ga K "is_number"))))) && ((Hk.fb K (He.ga K "is_number") "is_number") && ((PySem.W.keepIn K (.ref (He.ga K "is_number"))) && ((decide (PySem.W.nsIn K mainGlobals "_clause_in" = some (some (.ref (He.ga K "_clause_in"))))) && ((Hk.fb K (He.ga K "_clause_in") "_clause_in") && ((PySem.W.keepIn K (.ref (He.ga K "_clause_in"))) && ((decide (PySem.W.nsIn K mainGlobals "_pair_in" = some (some (.ref (He.ga K "_pair_in"))))) && ((Hk.fb K (He.ga K "_pair_in") "_pair_in") && (PySem.W.keepIn K (.ref (He.ga K "_pair_in"))))))))))))))))))))))))))
def hchk6 (K : PySem.W.Frag) : Bool := (decide (PySem.W.nsIn K mainGlobals "_book_up_to" = some (some (.ref (He.ga K "_book_up_to"))))) && ((Hk.fb K (He.ga K "_book_up_to") "_book_up_to") && ((PySem.W.keepIn K (.ref (He.ga K "_book_up_to"))) && ((decide (PySem.W.nsIn K mainGlobals "book_in" = some (some (.ref (He.ga K "book_in"))))) && ((Hk.fb K (He.ga K "book_in") "book_in") && ((PySem.W.keepIn K (.ref (He.ga K "book_in"))) && ((decide (PySem.W.nsIn K mainGlobals "read_book" = some (some (.ref (He.ga K "read_book"))))) && ((Hk.fb K (He.ga K "read_book") "read_book") && ((PySem.W.keepIn K (.ref (He.ga K "read_book"))) && ((decide (PySem.W.nsIn K mainGlobals "clause_text" = some (some (.ref (He.ga K "clause_text"))))) && ((Hk.fb K (He.ga K "clause_text") "clause_text") && ((PySem.W.keepIn K (.ref (He.ga K "clause_text"))) && ((decide (PySem.W.nsIn K mainGlobals "book_lines" = some (some (.ref (He.ga K "book_lines"))))) && ((Hk.fb K (He.ga K "book_lines") "book_lines") && ((PySem.W.keepIn K (.ref (He.ga K "book_lines"))) && ((decide (PySem.W.nsIn K mainGlobals "book_text" = some (some (.ref (He.ga K "book_text"))))) && ((Hk.fb K (He.ga K "book_text") "book_text") && ((PySem.W.keepIn K (.ref (He.ga K "book_text"))) && ((decide (PySem.W.nsIn K mainGlobals "_law_source" = some (some (.ref (He.ga K "_law_source"))))) && ((Hk.fb K (He.ga K "_law_source") "_law_source") && ((PySem.W.keepIn K (.ref (He.ga K "_law_source"))) && ((decide (PySem.W.nsIn K mainGlobals "_law_take" = some (some (.ref (He.ga K "_law_take"))))) && ((Hk.fb K (He.ga K "_law_take") "_law_take") && ((PySem.W.keepIn K (.ref (He.ga K "_law_take"))) && (decide (PySem.W.nsIn K mainGlobals "_law_word" = some (some (.ref (He.ga K "_law_word"))))))))))))))))))))))))))))
def hchk7 (K : PySem.W.Frag) : Bool := (Hk.fb K (He.ga K "_law_word") "_law_word") && ((PySem.W.keepIn K (.ref (He.ga K "_law_word"))) && ((decide (PySem.W.nsIn K mainGlobals "_law_names" = some (some (.ref (He.ga K "_law_names"))))) && ((Hk.fb K (He.ga K "_law_names") "_law_names") && ((PySem.W.keepIn K (.ref (He.ga K "_law_names"))) && ((decide (PySem.W.nsIn K mainGlobals "_law_flip" = some (some (.ref (He.ga K "_law_flip"))))) && ((Hk.fb K (He.ga K "_law_flip") "_law_flip") && ((PySem.W.keepIn K (.ref (He.ga K "_law_flip"))) && ((decide (PySem.W.nsIn K mainGlobals "_law_name" = some (some (.ref (He.ga K "_law_name"))))) && ((Hk.fb K (He.ga K "_law_name") "_law_name") && ((PySem.W.keepIn K (.ref (He.ga K "_law_name"))) && ((decide (PySem.W.nsIn K mainGlobals "_law_sorted" = some (some (.ref (He.ga K "_law_sorted"))))) && ((Hk.fb K (He.ga K "_law_sorted") "_law_sorted") && ((PySem.W.keepIn K (.ref (He.ga K "_law_sorted"))) && ((decide (PySem.W.nsIn K mainGlobals "_law_ordered" = some (some (.ref (He.ga K "_law_ordered"))))) && ((Hk.fb K (He.ga K "_law_ordered") "_law_ordered") && ((PySem.W.keepIn K (.ref (He.ga K "_law_ordered"))) && ((decide (PySem.W.nsIn K mainGlobals "_law_same" = some (some (.ref (He.ga K "_law_same"))))) && ((Hk.fb K (He.ga K "_law_same") "_law_same") && ((PySem.W.keepIn K (.ref (He.ga K "_law_same"))) && ((decide (PySem.W.nsIn K mainGlobals "_law_row" = some (some (.ref (He.ga K "_law_row"))))) && ((Hk.fb K (He.ga K "_law_row") "_law_row") && ((PySem.W.keepIn K (.ref (He.ga K "_law_row"))) && ((decide (PySem.W.nsIn K mainGlobals "_law_numbers" = some (some (.ref (He.ga K "_law_numbers"))))) && (Hk.fb K (He.ga K "_law_numbers") "_law_numbers"))))))))))))))))))))))))
def hchk8 (K : PySem.W.Frag) : Bool := (PySem.W.keepIn K (.ref (He.ga K "_law_numbers"))) && ((decide (PySem.W.nsIn K mainGlobals "_law_names_in" = some (some (.ref (He.ga K "_law_names_in"))))) && ((Hk.fb K (He.ga K "_law_names_in") "_law_names_in") && ((PySem.W.keepIn K (.ref (He.ga K "_law_names_in"))) && ((decide (PySem.W.nsIn K mainGlobals "_law_bad" = some (some (.ref (He.ga K "_law_bad"))))) && ((Hk.fb K (He.ga K "_law_bad") "_law_bad") && ((PySem.W.keepIn K (.ref (He.ga K "_law_bad"))) && ((decide (PySem.W.nsIn K mainGlobals "_law_is_name" = some (some (.ref (He.ga K "_law_is_name"))))) && ((Hk.fb K (He.ga K "_law_is_name") "_law_is_name") && ((PySem.W.keepIn K (.ref (He.ga K "_law_is_name"))) && ((decide (PySem.W.nsIn K mainGlobals "_law_row_of" = some (some (.ref (He.ga K "_law_row_of"))))) && ((Hk.fb K (He.ga K "_law_row_of") "_law_row_of") && ((PySem.W.keepIn K (.ref (He.ga K "_law_row_of"))) && ((decide (PySem.W.nsIn K mainGlobals "_law_number_of" = some (some (.ref (He.ga K "_law_number_of"))))) && ((Hk.fb K (He.ga K "_law_number_of") "_law_number_of") && ((PySem.W.keepIn K (.ref (He.ga K "_law_number_of"))) && ((decide (PySem.W.nsIn K mainGlobals "_law_judged" = some (some (.ref (He.ga K "_law_judged"))))) && ((Hk.fb K (He.ga K "_law_judged") "_law_judged") && ((PySem.W.keepIn K (.ref (He.ga K "_law_judged"))) && ((decide (PySem.W.nsIn K mainGlobals "_law_state" = some (some (.ref (He.ga K "_law_state"))))) && ((Hk.fb K (He.ga K "_law_state") "_law_state") && ((PySem.W.keepIn K (.ref (He.ga K "_law_state"))) && ((decide (PySem.W.nsIn K mainGlobals "_law_refused" = some (some (.ref (He.ga K "_law_refused"))))) && ((Hk.fb K (He.ga K "_law_refused") "_law_refused") && (PySem.W.keepIn K (.ref (He.ga K "_law_refused"))))))))))))))))))))))))))
def hchk9 (K : PySem.W.Frag) : Bool := (decide (PySem.W.nsIn K mainGlobals "_law_right" = some (some (.ref (He.ga K "_law_right"))))) && ((Hk.fb K (He.ga K "_law_right") "_law_right") && ((PySem.W.keepIn K (.ref (He.ga K "_law_right"))) && ((decide (PySem.W.nsIn K mainGlobals "_law_lines" = some (some (.ref (He.ga K "_law_lines"))))) && ((Hk.fb K (He.ga K "_law_lines") "_law_lines") && ((PySem.W.keepIn K (.ref (He.ga K "_law_lines"))) && ((decide (PySem.W.nsIn K mainGlobals "_law_other_clause" = some (some (.ref (He.ga K "_law_other_clause"))))) && ((Hk.fb K (He.ga K "_law_other_clause") "_law_other_clause") && ((PySem.W.keepIn K (.ref (He.ga K "_law_other_clause"))) && ((decide (PySem.W.nsIn K mainGlobals "_law_other_line" = some (some (.ref (He.ga K "_law_other_line"))))) && ((Hk.fb K (He.ga K "_law_other_line") "_law_other_line") && ((PySem.W.keepIn K (.ref (He.ga K "_law_other_line"))) && ((decide (PySem.W.nsIn K mainGlobals "_law_spoilt" = some (some (.ref (He.ga K "_law_spoilt"))))) && ((Hk.fb K (He.ga K "_law_spoilt") "_law_spoilt") && ((PySem.W.keepIn K (.ref (He.ga K "_law_spoilt"))) && ((decide (PySem.W.nsIn K mainGlobals "law" = some (some (.ref (He.ga K "law"))))) && ((Hk.fb K (He.ga K "law") "law") && ((PySem.W.keepIn K (.ref (He.ga K "law"))) && ((Hk.sb K "LETTERS" "abcdefghijklmnopqrstuvwxyz") && ((Hk.sb K "LETTERS_AND_DIGITS" "abcdefghijklmnopqrstuvwxyz0123456789") && ((Hk.nb K "LONGEST_NAME" 8) && ((Hk.nb K "MOST_DIGITS" 3) && ((decide (PySem.W.nsIn K mainGlobals "HornError" = some (some (.ref (He.ga K "HornError"))))) && ((decide (PySem.W.nsIn K mainGlobals "BadLiteral" = some (some (.ref (He.ga K "BadLiteral"))))) && (Hk.eb K (He.ga K "BadLiteral")))))))))))))))))))))))))
def hchk10 (K : PySem.W.Frag) : Bool := (decide (PySem.W.findIn K (.ref (He.ga K "BadLiteral")) "__setattr__" = some (some (.builtin "object.__setattr__")))) && ((decide (PySem.W.findIn K (.ref (He.ga K "BadLiteral")) "__getattribute__" = some (some (.builtin "BaseException.__getattribute__")))) && ((decide (PySem.W.findIn K (.ref (He.ga K "BadLiteral")) "__getattr__" = some none)) && ((decide (PySem.W.findIn K (.ref (He.ga K "BadLiteral")) "__init__" = some (some (.ref (He.ma K (He.ga K "BadLiteral") "__init__"))))) && ((decide (PySem.W.findIn K (.ref (He.ga K "BadLiteral")) "__class__" = some (some (.builtin "object.__class__")))) && ((decide (PySem.W.findIn K (.ref (He.ga K "BadLiteral")) "text" = some none)) && ((decide (PySem.W.typeIn K (.ref (He.ma K (He.ga K "BadLiteral") "__init__")) = some (.type "function"))) && ((PySem.W.keepIn K (.ref (He.ga K "BadLiteral"))) && ((decide (PySem.W.subIn K (.ref (He.ga K "BadLiteral")) (.type "BaseException") = some true)) && ((decide (PySem.W.subIn K (.ref (He.ga K "BadLiteral")) (.type "ValueError") = some true)) && ((decide (PySem.W.typeIn K (.ref (He.ga K "BadLiteral")) = some (.type "type"))) && ((PySem.W.hasDictIn K (He.ga K "BadLiteral")) && ((PySem.W.isClsIn K (He.ga K "BadLiteral")) && ((decide (PySem.W.subIn K (.ref (He.ga K "BadLiteral")) (.ref (He.ga K "BadLiteral")) = some true)) && ((decide (PySem.W.ks_superIn K (He.ga K "BadLiteral") (He.ga K "BadLiteral") "__init__" = some (some (.builtin "ValueError.__init__")))) && ((decide (PySem.W.mroIn K (He.ga K "BadLiteral") (.ref (He.ga K "BadLiteral")) = some true)) && ((decide (PySem.W.mroIn K (He.ga K "BadLiteral") (.type "object") = some true)) && ((Hk.eib K (He.ma K (He.ga K "BadLiteral") "__init__") (He.ga K "BadLiteral") ("BadLiteral" ++ ".__init__") HKR.prog.main.file) && ((decide (PySem.W.nsIn K mainGlobals "BadText" = some (some (.ref (He.ga K "BadText"))))) && ((Hk.eb K (He.ga K "BadText")) && ((decide (PySem.W.findIn K (.ref (He.ga K "BadText")) "__setattr__" = some (some (.builtin "object.__setattr__")))) && ((decide (PySem.W.findIn K (.ref (He.ga K "BadText")) "__getattribute__" = some (some (.builtin "BaseException.__getattribute__")))) && ((decide (PySem.W.findIn K (.ref (He.ga K "BadText")) "__getattr__" = some none)) && ((decide (PySem.W.findIn K (.ref (He.ga K "BadText")) "__init__" = some (some (.ref (He.ma K (He.ga K "BadText") "__init__"))))) && (decide (PySem.W.findIn K (.ref (He.ga K "BadText")) "__class__" = some (some (.builtin "object.__class__")))))))))))))))))))))))))))
def hchk11 (K : PySem.W.Frag) : Bool := (decide (PySem.W.findIn K (.ref (He.ga K "BadText")) "line" = some none)) && ((decide (PySem.W.typeIn K (.ref (He.ma K (He.ga K "BadText") "__init__")) = some (.type "function"))) && ((PySem.W.keepIn K (.ref (He.ga K "BadText"))) && ((decide (PySem.W.subIn K (.ref (He.ga K "BadText")) (.type "BaseException") = some true)) && ((decide (PySem.W.subIn K (.ref (He.ga K "BadText")) (.type "ValueError") = some true)) && ((decide (PySem.W.typeIn K (.ref (He.ga K "BadText")) = some (.type "type"))) && ((PySem.W.hasDictIn K (He.ga K "BadText")) && ((PySem.W.isClsIn K (He.ga K "BadText")) && ((decide (PySem.W.subIn K (.ref (He.ga K "BadText")) (.ref (He.ga K "BadText")) = some true)) && ((decide (PySem.W.ks_superIn K (He.ga K "BadText") (He.ga K "BadText") "__init__" = some (some (.builtin "ValueError.__init__")))) && ((decide (PySem.W.mroIn K (He.ga K "BadText") (.ref (He.ga K "BadText")) = some true)) && ((decide (PySem.W.mroIn K (He.ga K "BadText") (.type "object") = some true)) && ((Hk.eib K (He.ma K (He.ga K "BadText") "__init__") (He.ga K "BadText") ("BadText" ++ ".__init__") HKR.prog.main.file) && ((decide (PySem.W.nsIn K mainGlobals "BothSigns" = some (some (.ref (He.ga K "BothSigns"))))) && ((Hk.eb K (He.ga K "BothSigns")) && ((decide (PySem.W.findIn K (.ref (He.ga K "BothSigns")) "__setattr__" = some (some (.builtin "object.__setattr__")))) && ((decide (PySem.W.findIn K (.ref (He.ga K "BothSigns")) "__getattribute__" = some (some (.builtin "BaseException.__getattribute__")))) && ((decide (PySem.W.findIn K (.ref (He.ga K "BothSigns")) "__getattr__" = some none)) && ((decide (PySem.W.findIn K (.ref (He.ga K "BothSigns")) "__init__" = some (some (.ref (He.ma K (He.ga K "BothSigns") "__init__"))))) && ((decide (PySem.W.findIn K (.ref (He.ga K "BothSigns")) "__class__" = some (some (.builtin "object.__class__")))) && ((decide (PySem.W.findIn K (.ref (He.ga K "BothSigns")) "name" = some none)) && ((decide (PySem.W.typeIn K (.ref (He.ma K (He.ga K "BothSigns") "__init__")) = some (.type "function"))) && ((PySem.W.keepIn K (.ref (He.ga K "BothSigns"))) && ((decide (PySem.W.subIn K (.ref (He.ga K "BothSigns")) (.type "BaseException") = some true)) && (decide (PySem.W.subIn K (.ref (He.ga K "BothSigns")) (.type "ValueError") = some true)))))))))))))))))))))))))
def hchk12 (K : PySem.W.Frag) : Bool := (decide (PySem.W.typeIn K (.ref (He.ga K "BothSigns")) = some (.type "type"))) && ((PySem.W.hasDictIn K (He.ga K "BothSigns")) && ((PySem.W.isClsIn K (He.ga K "BothSigns")) && ((decide (PySem.W.subIn K (.ref (He.ga K "BothSigns")) (.ref (He.ga K "BothSigns")) = some true)) && ((decide (PySem.W.ks_superIn K (He.ga K "BothSigns") (He.ga K "BothSigns") "__init__" = some (some (.builtin "ValueError.__init__")))) && ((decide (PySem.W.mroIn K (He.ga K "BothSigns") (.ref (He.ga K "BothSigns")) = some true)) && ((decide (PySem.W.mroIn K (He.ga K "BothSigns") (.type "object") = some true)) && ((Hk.eib K (He.ma K (He.ga K "BothSigns") "__init__") (He.ga K "BothSigns") ("BothSigns" ++ ".__init__") HKR.prog.main.file) && ((decide (PySem.W.nsIn K mainGlobals "TooMany" = some (some (.ref (He.ga K "TooMany"))))) && ((Hk.eb K (He.ga K "TooMany")) && ((decide (PySem.W.findIn K (.ref (He.ga K "TooMany")) "__setattr__" = some (some (.builtin "object.__setattr__")))) && ((decide (PySem.W.findIn K (.ref (He.ga K "TooMany")) "__getattribute__" = some (some (.builtin "BaseException.__getattribute__")))) && ((decide (PySem.W.findIn K (.ref (He.ga K "TooMany")) "__getattr__" = some none)) && ((decide (PySem.W.findIn K (.ref (He.ga K "TooMany")) "__init__" = some (some (.ref (He.ma K (He.ga K "TooMany") "__init__"))))) && ((decide (PySem.W.findIn K (.ref (He.ga K "TooMany")) "__class__" = some (some (.builtin "object.__class__")))) && ((decide (PySem.W.findIn K (.ref (He.ga K "TooMany")) "limit" = some none)) && ((decide (PySem.W.typeIn K (.ref (He.ma K (He.ga K "TooMany") "__init__")) = some (.type "function"))) && ((PySem.W.keepIn K (.ref (He.ga K "TooMany"))) && ((decide (PySem.W.subIn K (.ref (He.ga K "TooMany")) (.type "BaseException") = some true)) && ((decide (PySem.W.subIn K (.ref (He.ga K "TooMany")) (.type "ValueError") = some true)) && ((decide (PySem.W.typeIn K (.ref (He.ga K "TooMany")) = some (.type "type"))) && ((PySem.W.hasDictIn K (He.ga K "TooMany")) && ((PySem.W.isClsIn K (He.ga K "TooMany")) && ((decide (PySem.W.subIn K (.ref (He.ga K "TooMany")) (.ref (He.ga K "TooMany")) = some true)) && (decide (PySem.W.ks_superIn K (He.ga K "TooMany") (He.ga K "TooMany") "__init__" = some (some (.builtin "ValueError.__init__")))))))))))))))))))))))))))
def hchk13 (K : PySem.W.Frag) : Bool := (decide (PySem.W.mroIn K (He.ga K "TooMany") (.ref (He.ga K "TooMany")) = some true)) && ((decide (PySem.W.mroIn K (He.ga K "TooMany") (.type "object") = some true)) && ((Hk.eib K (He.ma K (He.ga K "TooMany") "__init__") (He.ga K "TooMany") ("TooMany" ++ ".__init__") HKR.prog.main.file) && ((decide (PySem.W.nsIn K mainGlobals "NoClause" = some (some (.ref (He.ga K "NoClause"))))) && ((Hk.eb K (He.ga K "NoClause")) && ((decide (PySem.W.findIn K (.ref (He.ga K "NoClause")) "__setattr__" = some (some (.builtin "object.__setattr__")))) && ((decide (PySem.W.findIn K (.ref (He.ga K "NoClause")) "__getattribute__" = some (some (.builtin "BaseException.__getattribute__")))) && ((decide (PySem.W.findIn K (.ref (He.ga K "NoClause")) "__getattr__" = some none)) && ((decide (PySem.W.findIn K (.ref (He.ga K "NoClause")) "__init__" = some (some (.ref (He.ma K (He.ga K "NoClause") "__init__"))))) && ((decide (PySem.W.findIn K (.ref (He.ga K "NoClause")) "__class__" = some (some (.builtin "object.__class__")))) && ((decide (PySem.W.findIn K (.ref (He.ga K "NoClause")) "number" = some none)) && ((decide (PySem.W.typeIn K (.ref (He.ma K (He.ga K "NoClause") "__init__")) = some (.type "function"))) && ((PySem.W.keepIn K (.ref (He.ga K "NoClause"))) && ((decide (PySem.W.subIn K (.ref (He.ga K "NoClause")) (.type "BaseException") = some true)) && ((decide (PySem.W.subIn K (.ref (He.ga K "NoClause")) (.type "ValueError") = some true)) && ((decide (PySem.W.typeIn K (.ref (He.ga K "NoClause")) = some (.type "type"))) && ((PySem.W.hasDictIn K (He.ga K "NoClause")) && ((PySem.W.isClsIn K (He.ga K "NoClause")) && ((decide (PySem.W.subIn K (.ref (He.ga K "NoClause")) (.ref (He.ga K "NoClause")) = some true)) && ((decide (PySem.W.ks_superIn K (He.ga K "NoClause") (He.ga K "NoClause") "__init__" = some (some (.builtin "ValueError.__init__")))) && ((decide (PySem.W.mroIn K (He.ga K "NoClause") (.ref (He.ga K "NoClause")) = some true)) && ((decide (PySem.W.mroIn K (He.ga K "NoClause") (.type "object") = some true)) && ((Hk.eib K (He.ma K (He.ga K "NoClause") "__init__") (He.ga K "NoClause") ("NoClause" ++ ".__init__") HKR.prog.main.file) && ((decide (PySem.W.nsIn K mainGlobals "BadNumber" = some (some (.ref (He.ga K "BadNumber"))))) && (Hk.eb K (He.ga K "BadNumber")))))))))))))))))))))))))
def hchk14 (K : PySem.W.Frag) : Bool := (decide (PySem.W.findIn K (.ref (He.ga K "BadNumber")) "__setattr__" = some (some (.builtin "object.__setattr__")))) && ((decide (PySem.W.findIn K (.ref (He.ga K "BadNumber")) "__getattribute__" = some (some (.builtin "BaseException.__getattribute__")))) && ((decide (PySem.W.findIn K (.ref (He.ga K "BadNumber")) "__getattr__" = some none)) && ((decide (PySem.W.findIn K (.ref (He.ga K "BadNumber")) "__init__" = some (some (.ref (He.ma K (He.ga K "BadNumber") "__init__"))))) && ((decide (PySem.W.findIn K (.ref (He.ga K "BadNumber")) "__class__" = some (some (.builtin "object.__class__")))) && ((decide (PySem.W.findIn K (.ref (He.ga K "BadNumber")) "number" = some none)) && ((decide (PySem.W.typeIn K (.ref (He.ma K (He.ga K "BadNumber") "__init__")) = some (.type "function"))) && ((PySem.W.keepIn K (.ref (He.ga K "BadNumber"))) && ((decide (PySem.W.subIn K (.ref (He.ga K "BadNumber")) (.type "BaseException") = some true)) && ((decide (PySem.W.subIn K (.ref (He.ga K "BadNumber")) (.type "ValueError") = some true)) && ((decide (PySem.W.typeIn K (.ref (He.ga K "BadNumber")) = some (.type "type"))) && ((PySem.W.hasDictIn K (He.ga K "BadNumber")) && ((PySem.W.isClsIn K (He.ga K "BadNumber")) && ((decide (PySem.W.subIn K (.ref (He.ga K "BadNumber")) (.ref (He.ga K "BadNumber")) = some true)) && ((decide (PySem.W.ks_superIn K (He.ga K "BadNumber") (He.ga K "BadNumber") "__init__" = some (some (.builtin "ValueError.__init__")))) && ((decide (PySem.W.mroIn K (He.ga K "BadNumber") (.ref (He.ga K "BadNumber")) = some true)) && ((decide (PySem.W.mroIn K (He.ga K "BadNumber") (.type "object") = some true)) && ((Hk.eib K (He.ma K (He.ga K "BadNumber") "__init__") (He.ga K "BadNumber") ("BadNumber" ++ ".__init__") HKR.prog.main.file) && ((decide (PySem.W.kitOne K (.ref (He.ga K "BadLiteral")) (.ref (He.ga K "BadLiteral")) = some true)) && ((decide (PySem.W.kitOne K (.ref (He.ga K "BadLiteral")) (.ref (He.ga K "BadNumber")) = some false)) && ((decide (PySem.W.kitOne K (.ref (He.ga K "BadLiteral")) (.ref (He.ga K "HornError")) = some true)) && ((decide (PySem.W.kitOne K (.ref (He.ga K "BadLiteral")) (.ref (He.ga K "TooMany")) = some false)) && ((decide (PySem.W.kitOne K (.ref (He.ga K "BadLiteral")) (.type "ValueError") = some true)) && ((decide (PySem.W.kitOne K (.ref (He.ga K "BadText")) (.ref (He.ga K "BadLiteral")) = some false)) && (decide (PySem.W.kitOne K (.ref (He.ga K "BadText")) (.ref (He.ga K "BadNumber")) = some false)))))))))))))))))))))))))
def hchk15 (K : PySem.W.Frag) : Bool := (decide (PySem.W.kitOne K (.ref (He.ga K "BadText")) (.ref (He.ga K "HornError")) = some true)) && ((decide (PySem.W.kitOne K (.ref (He.ga K "BadText")) (.ref (He.ga K "TooMany")) = some false)) && ((decide (PySem.W.kitOne K (.ref (He.ga K "BadText")) (.type "ValueError") = some true)) && ((decide (PySem.W.kitOne K (.ref (He.ga K "BothSigns")) (.ref (He.ga K "BadLiteral")) = some false)) && ((decide (PySem.W.kitOne K (.ref (He.ga K "BothSigns")) (.ref (He.ga K "BadNumber")) = some false)) && ((decide (PySem.W.kitOne K (.ref (He.ga K "BothSigns")) (.ref (He.ga K "HornError")) = some true)) && ((decide (PySem.W.kitOne K (.ref (He.ga K "BothSigns")) (.ref (He.ga K "TooMany")) = some false)) && ((decide (PySem.W.kitOne K (.ref (He.ga K "BothSigns")) (.type "ValueError") = some true)) && ((decide (PySem.W.kitOne K (.ref (He.ga K "TooMany")) (.ref (He.ga K "BadLiteral")) = some false)) && ((decide (PySem.W.kitOne K (.ref (He.ga K "TooMany")) (.ref (He.ga K "BadNumber")) = some false)) && ((decide (PySem.W.kitOne K (.ref (He.ga K "TooMany")) (.ref (He.ga K "HornError")) = some true)) && ((decide (PySem.W.kitOne K (.ref (He.ga K "TooMany")) (.ref (He.ga K "TooMany")) = some true)) && ((decide (PySem.W.kitOne K (.ref (He.ga K "TooMany")) (.type "ValueError") = some true)) && ((decide (PySem.W.kitOne K (.ref (He.ga K "NoClause")) (.ref (He.ga K "BadLiteral")) = some false)) && ((decide (PySem.W.kitOne K (.ref (He.ga K "NoClause")) (.ref (He.ga K "BadNumber")) = some false)) && ((decide (PySem.W.kitOne K (.ref (He.ga K "NoClause")) (.ref (He.ga K "HornError")) = some true)) && ((decide (PySem.W.kitOne K (.ref (He.ga K "NoClause")) (.ref (He.ga K "TooMany")) = some false)) && ((decide (PySem.W.kitOne K (.ref (He.ga K "NoClause")) (.type "ValueError") = some true)) && ((decide (PySem.W.kitOne K (.ref (He.ga K "BadNumber")) (.ref (He.ga K "BadLiteral")) = some false)) && ((decide (PySem.W.kitOne K (.ref (He.ga K "BadNumber")) (.ref (He.ga K "BadNumber")) = some true)) && ((decide (PySem.W.kitOne K (.ref (He.ga K "BadNumber")) (.ref (He.ga K "HornError")) = some true)) && ((decide (PySem.W.kitOne K (.ref (He.ga K "BadNumber")) (.ref (He.ga K "TooMany")) = some false)) && ((decide (PySem.W.kitOne K (.ref (He.ga K "BadNumber")) (.type "ValueError") = some true)) && ((decide (PySem.W.subIn K (.ref (He.ga K "BothSigns")) (.ref (He.ga K "BadLiteral")) = some false)) && (decide (PySem.W.subIn K (.ref (He.ga K "TooMany")) (.ref (He.ga K "BadLiteral")) = some false)))))))))))))))))))))))))
def hchk16 (K : PySem.W.Frag) : Bool := (decide (PySem.W.subIn K (.ref (He.ga K "TooMany")) (.ref (He.ga K "BothSigns")) = some false)) && ((decide (PySem.W.subIn K (.ref (He.ga K "BadLiteral")) (.ref (He.ga K "BothSigns")) = some false)) && ((decide (PySem.W.subIn K (.ref (He.ga K "BadLiteral")) (.ref (He.ga K "TooMany")) = some false)) && ((decide (PySem.W.subIn K (.ref (He.ga K "BothSigns")) (.ref (He.ga K "TooMany")) = some false)) && ((decide (PySem.W.subIn K (.ref (He.ga K "BadNumber")) (.ref (He.ga K "TooMany")) = some false)) && ((decide (PySem.W.subIn K (.ref (He.ga K "TooMany")) (.ref (He.ga K "BadNumber")) = some false)) && ((decide (PySem.W.subIn K (.ref (He.ga K "BadText")) (.ref (He.ga K "BadLiteral")) = some false)) && ((decide (PySem.W.subIn K (.ref (He.ga K "BadText")) (.ref (He.ga K "BadNumber")) = some false)) && ((decide (PySem.W.subIn K (.ref (He.ga K "BadText")) (.ref (He.ga K "TooMany")) = some false)) && ((decide (PySem.W.nsIn K mainGlobals "NotImplemented" = some none)) && ((decide (PySem.W.nsIn K mainGlobals "ValueError" = some none)) && ((decide (PySem.W.nsIn K mainGlobals "all" = some none)) && ((decide (PySem.W.nsIn K mainGlobals "any" = some none)) && ((decide (PySem.W.nsIn K mainGlobals "bool" = some none)) && ((decide (PySem.W.nsIn K mainGlobals "classmethod" = some none)) && ((decide (PySem.W.nsIn K mainGlobals "enumerate" = some none)) && ((decide (PySem.W.nsIn K mainGlobals "int" = some none)) && ((decide (PySem.W.nsIn K mainGlobals "isinstance" = some none)) && ((decide (PySem.W.nsIn K mainGlobals "iter" = some none)) && ((decide (PySem.W.nsIn K mainGlobals "len" = some none)) && ((decide (PySem.W.nsIn K mainGlobals "list" = some none)) && ((decide (PySem.W.nsIn K mainGlobals "max" = some none)) && ((decide (PySem.W.nsIn K mainGlobals "property" = some none)) && ((decide (PySem.W.nsIn K mainGlobals "range" = some none)) && (decide (PySem.W.nsIn K mainGlobals "set" = some none)))))))))))))))))))))))))
def hchk17 (K : PySem.W.Frag) : Bool := (decide (PySem.W.nsIn K mainGlobals "sorted" = some none)) && ((decide (PySem.W.nsIn K mainGlobals "str" = some none)) && ((decide (PySem.W.nsIn K mainGlobals "super" = some none)) && ((decide (PySem.W.nsIn K mainGlobals "tuple" = some none)) && ((decide (PySem.W.nsIn K cStatics "thirdparty.any" = some none)) && ((decide (PySem.W.specialIn K (.builtin "object.__class__") "__get__" = some (some (.builtin "getset_descriptor.__get__")))) && (decide (PySem.W.takesIn K (.builtin "object.__class__") = some true)))))))
def hex (K : PySem.W.Frag) : Bool := (hchk0 K) && ((hchk1 K) && ((hchk2 K) && ((hchk3 K) && ((hchk4 K) && ((hchk5 K) && ((hchk6 K) && ((hchk7 K) && ((hchk8 K) && ((hchk9 K) && ((hchk10 K) && ((hchk11 K) && ((hchk12 K) && ((hchk13 K) && ((hchk14 K) && ((hchk15 K) && ((hchk16 K) && (hchk17 K)))))))))))))))))
def hats0 (K : PySem.W.Frag) : List Addr := [(He.ga K "is_name"), (He.ga K "is_literal"), (He.ga K "check_literal"), (He.ga K "name_of"), (He.ga K "is_positive"), (He.ga K "negated"), (He.ga K "both_signs"), (He.ga K "in_order"), (He.ga K "check_signs"), (He.ma K (He.ga K "Clause") "__init__"), (Hk.pa K (He.ma K (He.ga K "Clause") "names") "property"), (He.ma K (He.ga K "Clause") "__eq__"), (He.ma K (He.ga K "Clause") "__str__"), (He.ga K "turned_literal"), (He.ga K "turned_clause"), (He.ga K "_names_in"), (He.ga K "_check_names"), (He.ga K "_check_room"), (He.ga K "_placed_from_one"), (He.ga K "_all_turned"), (He.ga K "book_of"), (He.ma K (He.ga K "Book") "__init__"), (Hk.pa K (He.ma K (He.ga K "Book") "numbered") "classmethod"), (Hk.pa K (He.ma K (He.ga K "Book") "names") "property"), (Hk.pa K (He.ma K (He.ga K "Book") "next_number") "property")]
def hats1 (K : PySem.W.Frag) : List Addr := [(He.ma K (He.ga K "Book") "__iter__"), (He.ma K (He.ga K "Book") "__len__"), (He.ma K (He.ga K "Book") "__contains__"), (He.ma K (He.ga K "Book") "__getitem__"), (He.ga K "is_number"), (He.ga K "_clause_in"), (He.ga K "_pair_in"), (He.ga K "_book_up_to"), (He.ga K "book_in"), (He.ga K "read_book"), (He.ga K "clause_text"), (He.ga K "book_lines"), (He.ga K "book_text"), (He.ga K "_law_source"), (He.ga K "_law_take"), (He.ga K "_law_word"), (He.ga K "_law_names"), (He.ga K "_law_flip"), (He.ga K "_law_name"), (He.ga K "_law_sorted"), (He.ga K "_law_ordered"), (He.ga K "_law_same"), (He.ga K "_law_row"), (He.ga K "_law_numbers"), (He.ga K "_law_names_in")]
def hats2 (K : PySem.W.Frag) : List Addr := [(He.ga K "_law_bad"), (He.ga K "_law_is_name"), (He.ga K "_law_row_of"), (He.ga K "_law_number_of"), (He.ga K "_law_judged"), (He.ga K "_law_state"), (He.ga K "_law_refused"), (He.ga K "_law_right"), (He.ga K "_law_lines"), (He.ga K "_law_other_clause"), (He.ga K "_law_other_line"), (He.ga K "_law_spoilt"), (He.ga K "law"), (He.ma K (He.ga K "BadLiteral") "__init__"), (He.ma K (He.ga K "BadText") "__init__"), (He.ma K (He.ga K "BothSigns") "__init__"), (He.ma K (He.ga K "TooMany") "__init__"), (He.ma K (He.ga K "NoClause") "__init__"), (He.ma K (He.ga K "BadNumber") "__init__")]
def hats (K : PySem.W.Frag) : List Addr := hats0 K ++ hats1 K ++ hats2 K
def hvals0 : List Hk.FV := [some ("is_name", "is_name", defArgs s_is_name, .stmts (defBody s_is_name), defScope s_is_name, mainGlobals, [], builtinsNs), some ("is_literal", "is_literal", defArgs s_is_literal, .stmts (defBody s_is_literal), defScope s_is_literal, mainGlobals, [], builtinsNs), some ("check_literal", "check_literal", defArgs s_check_literal, .stmts (defBody s_check_literal), defScope s_check_literal, mainGlobals, [], builtinsNs), some ("name_of", "name_of", defArgs s_name_of, .stmts (defBody s_name_of), defScope s_name_of, mainGlobals, [], builtinsNs), some ("is_positive", "is_positive", defArgs s_is_positive, .stmts (defBody s_is_positive), defScope s_is_positive, mainGlobals, [], builtinsNs), some ("negated", "negated", defArgs s_negated, .stmts (defBody s_negated), defScope s_negated, mainGlobals, [], builtinsNs), some ("both_signs", "both_signs", defArgs s_both_signs, .stmts (defBody s_both_signs), defScope s_both_signs, mainGlobals, [], builtinsNs), some ("in_order", "in_order", defArgs s_in_order, .stmts (defBody s_in_order), defScope s_in_order, mainGlobals, [], builtinsNs), some ("check_signs", "check_signs", defArgs s_check_signs, .stmts (defBody s_check_signs), defScope s_check_signs, mainGlobals, [], builtinsNs), some ("__init__", "Clause.__init__", defArgs s_Clause_init, .stmts (defBody s_Clause_init), defScope s_Clause_init, mainGlobals, [], builtinsNs), some ("names", "Clause.names", defArgs s_Clause_names, .stmts (defBody s_Clause_names), defScope s_Clause_names, mainGlobals, [], builtinsNs), some ("__eq__", "Clause.__eq__", defArgs s_Clause_eq, .stmts (defBody s_Clause_eq), defScope s_Clause_eq, mainGlobals, [], builtinsNs), some ("__str__", "Clause.__str__", defArgs s_Clause_str, .stmts (defBody s_Clause_str), defScope s_Clause_str, mainGlobals, [], builtinsNs), some ("turned_literal", "turned_literal", defArgs s_turned_literal, .stmts (defBody s_turned_literal), defScope s_turned_literal, mainGlobals, [], builtinsNs), some ("turned_clause", "turned_clause", defArgs s_turned_clause, .stmts (defBody s_turned_clause), defScope s_turned_clause, mainGlobals, [], builtinsNs), some ("_names_in", "_names_in", defArgs s__names_in, .stmts (defBody s__names_in), defScope s__names_in, mainGlobals, [], builtinsNs), some ("_check_names", "_check_names", defArgs s__check_names, .stmts (defBody s__check_names), defScope s__check_names, mainGlobals, [], builtinsNs), some ("_check_room", "_check_room", defArgs s__check_room, .stmts (defBody s__check_room), defScope s__check_room, mainGlobals, [], builtinsNs), some ("_placed_from_one", "_placed_from_one", defArgs s__placed_from_one, .stmts (defBody s__placed_from_one), defScope s__placed_from_one, mainGlobals, [], builtinsNs), some ("_all_turned", "_all_turned", defArgs s__all_turned, .stmts (defBody s__all_turned), defScope s__all_turned, mainGlobals, [], builtinsNs), some ("book_of", "book_of", defArgs s_book_of, .stmts (defBody s_book_of), defScope s_book_of, mainGlobals, [], builtinsNs), some ("__init__", "Book.__init__", defArgs s_Book_init, .stmts (defBody s_Book_init), defScope s_Book_init, mainGlobals, [], builtinsNs), some ("numbered", "Book.numbered", defArgs s_Book_numbered, .stmts (defBody s_Book_numbered), defScope s_Book_numbered, mainGlobals, [], builtinsNs), some ("names", "Book.names", defArgs s_Book_names, .stmts (defBody s_Book_names), defScope s_Book_names, mainGlobals, [], builtinsNs), some ("next_number", "Book.next_number", defArgs s_Book_next_number, .stmts (defBody s_Book_next_number), defScope s_Book_next_number, mainGlobals, [], builtinsNs)]
def hvals1 : List Hk.FV := [some ("__iter__", "Book.__iter__", defArgs s_Book_iter, .stmts (defBody s_Book_iter), defScope s_Book_iter, mainGlobals, [], builtinsNs), some ("__len__", "Book.__len__", defArgs s_Book_len, .stmts (defBody s_Book_len), defScope s_Book_len, mainGlobals, [], builtinsNs), some ("__contains__", "Book.__contains__", defArgs s_Book_contains, .stmts (defBody s_Book_contains), defScope s_Book_contains, mainGlobals, [], builtinsNs), some ("__getitem__", "Book.__getitem__", defArgs s_Book_getitem, .stmts (defBody s_Book_getitem), defScope s_Book_getitem, mainGlobals, [], builtinsNs), some ("is_number", "is_number", defArgs s_is_number, .stmts (defBody s_is_number), defScope s_is_number, mainGlobals, [], builtinsNs), some ("_clause_in", "_clause_in", defArgs s__clause_in, .stmts (defBody s__clause_in), defScope s__clause_in, mainGlobals, [], builtinsNs), some ("_pair_in", "_pair_in", defArgs s__pair_in, .stmts (defBody s__pair_in), defScope s__pair_in, mainGlobals, [], builtinsNs), some ("_book_up_to", "_book_up_to", defArgs s__book_up_to, .stmts (defBody s__book_up_to), defScope s__book_up_to, mainGlobals, [], builtinsNs), some ("book_in", "book_in", defArgs s_book_in, .stmts (defBody s_book_in), defScope s_book_in, mainGlobals, [], builtinsNs), some ("read_book", "read_book", defArgs s_read_book, .stmts (defBody s_read_book), defScope s_read_book, mainGlobals, [], builtinsNs), some ("clause_text", "clause_text", defArgs s_clause_text, .stmts (defBody s_clause_text), defScope s_clause_text, mainGlobals, [], builtinsNs), some ("book_lines", "book_lines", defArgs s_book_lines, .stmts (defBody s_book_lines), defScope s_book_lines, mainGlobals, [], builtinsNs), some ("book_text", "book_text", defArgs s_book_text, .stmts (defBody s_book_text), defScope s_book_text, mainGlobals, [], builtinsNs), some ("_law_source", "_law_source", defArgs s__law_source, .stmts (defBody s__law_source), defScope s__law_source, mainGlobals, [], builtinsNs), some ("_law_take", "_law_take", defArgs s__law_take, .stmts (defBody s__law_take), defScope s__law_take, mainGlobals, [], builtinsNs), some ("_law_word", "_law_word", defArgs s__law_word, .stmts (defBody s__law_word), defScope s__law_word, mainGlobals, [], builtinsNs), some ("_law_names", "_law_names", defArgs s__law_names, .stmts (defBody s__law_names), defScope s__law_names, mainGlobals, [], builtinsNs), some ("_law_flip", "_law_flip", defArgs s__law_flip, .stmts (defBody s__law_flip), defScope s__law_flip, mainGlobals, [], builtinsNs), some ("_law_name", "_law_name", defArgs s__law_name, .stmts (defBody s__law_name), defScope s__law_name, mainGlobals, [], builtinsNs), some ("_law_sorted", "_law_sorted", defArgs s__law_sorted, .stmts (defBody s__law_sorted), defScope s__law_sorted, mainGlobals, [], builtinsNs), some ("_law_ordered", "_law_ordered", defArgs s__law_ordered, .stmts (defBody s__law_ordered), defScope s__law_ordered, mainGlobals, [], builtinsNs), some ("_law_same", "_law_same", defArgs s__law_same, .stmts (defBody s__law_same), defScope s__law_same, mainGlobals, [], builtinsNs), some ("_law_row", "_law_row", defArgs s__law_row, .stmts (defBody s__law_row), defScope s__law_row, mainGlobals, [], builtinsNs), some ("_law_numbers", "_law_numbers", defArgs s__law_numbers, .stmts (defBody s__law_numbers), defScope s__law_numbers, mainGlobals, [], builtinsNs), some ("_law_names_in", "_law_names_in", defArgs s__law_names_in, .stmts (defBody s__law_names_in), defScope s__law_names_in, mainGlobals, [], builtinsNs)]
def hvals2 : List Hk.FV := [some ("_law_bad", "_law_bad", defArgs s__law_bad, .stmts (defBody s__law_bad), defScope s__law_bad, mainGlobals, [], builtinsNs), some ("_law_is_name", "_law_is_name", defArgs s__law_is_name, .stmts (defBody s__law_is_name), defScope s__law_is_name, mainGlobals, [], builtinsNs), some ("_law_row_of", "_law_row_of", defArgs s__law_row_of, .stmts (defBody s__law_row_of), defScope s__law_row_of, mainGlobals, [], builtinsNs), some ("_law_number_of", "_law_number_of", defArgs s__law_number_of, .stmts (defBody s__law_number_of), defScope s__law_number_of, mainGlobals, [], builtinsNs), some ("_law_judged", "_law_judged", defArgs s__law_judged, .stmts (defBody s__law_judged), defScope s__law_judged, mainGlobals, [], builtinsNs), some ("_law_state", "_law_state", defArgs s__law_state, .stmts (defBody s__law_state), defScope s__law_state, mainGlobals, [], builtinsNs), some ("_law_refused", "_law_refused", defArgs s__law_refused, .stmts (defBody s__law_refused), defScope s__law_refused, mainGlobals, [], builtinsNs), some ("_law_right", "_law_right", defArgs s__law_right, .stmts (defBody s__law_right), defScope s__law_right, mainGlobals, [], builtinsNs), some ("_law_lines", "_law_lines", defArgs s__law_lines, .stmts (defBody s__law_lines), defScope s__law_lines, mainGlobals, [], builtinsNs), some ("_law_other_clause", "_law_other_clause", defArgs s__law_other_clause, .stmts (defBody s__law_other_clause), defScope s__law_other_clause, mainGlobals, [], builtinsNs), some ("_law_other_line", "_law_other_line", defArgs s__law_other_line, .stmts (defBody s__law_other_line), defScope s__law_other_line, mainGlobals, [], builtinsNs), some ("_law_spoilt", "_law_spoilt", defArgs s__law_spoilt, .stmts (defBody s__law_spoilt), defScope s__law_spoilt, mainGlobals, [], builtinsNs), some ("law", "law", defArgs s_law, .stmts (defBody s_law), defScope s_law, mainGlobals, [], builtinsNs), some ("__init__", "BadLiteral" ++ ".__init__", ea_BadLiteral, .stmts eb_BadLiteral, scope1 "text", mainGlobals, [Str.ofString "__class__"], builtinsNs), some ("__init__", "BadText" ++ ".__init__", ea_BadText, .stmts eb_BadText, scope1 "line", mainGlobals, [Str.ofString "__class__"], builtinsNs), some ("__init__", "BothSigns" ++ ".__init__", ea_BothSigns, .stmts eb_BothSigns, scope1 "name", mainGlobals, [Str.ofString "__class__"], builtinsNs), some ("__init__", "TooMany" ++ ".__init__", ea_TooMany, .stmts eb_TooMany, scope1 "limit", mainGlobals, [Str.ofString "__class__"], builtinsNs), some ("__init__", "NoClause" ++ ".__init__", ea_NoClause, .stmts eb_NoClause, scope1 "number", mainGlobals, [Str.ofString "__class__"], builtinsNs), some ("__init__", "BadNumber" ++ ".__init__", ea_BadNumber, .stmts eb_BadNumber, scope1 "number", mainGlobals, [Str.ofString "__class__"], builtinsNs)]
def hvals : List Hk.FV := hvals0 ++ hvals1 ++ hvals2
def hnames0 : List PySem.Str := ["_wall", "__name__", "HornError", "BadLiteral", "BadText", "BothSigns", "TooMany", "NoClause", "BadNumber", "LETTERS", "LETTERS_AND_DIGITS", "LONGEST_NAME", "is_name", "is_literal", "check_literal", "name_of", "is_positive", "negated", "both_signs", "in_order", "check_signs", "Clause", "turned_literal", "turned_clause", "_names_in"]
def hnames1 : List PySem.Str := ["_check_names", "_check_room", "_placed_from_one", "_all_turned", "book_of", "Book", "MOST_DIGITS", "is_number", "_clause_in", "_pair_in", "_book_up_to", "book_in", "read_book", "clause_text", "book_lines", "book_text", "_law_source", "_law_take", "_law_word", "_law_names", "_law_flip", "_law_name", "_law_sorted", "_law_ordered", "_law_same"]
def hnames2 : List PySem.Str := ["_law_row", "_law_numbers", "_law_names_in", "_law_bad", "_law_is_name", "_law_row_of", "_law_number_of", "_law_judged", "_law_state", "_law_refused", "_law_right", "_law_lines", "_law_other_clause", "_law_other_line", "_law_spoilt"]
def hnames : List PySem.Str := hnames0 ++ hnames1 ++ hnames2
abbrev hqv : Program := view HKR.prog [72]
abbrev hhk : PySem.W.Hook := Hk.hook 5 hex hats hvals
theorem hrun (w : World) : HandSHeadRun.RunEq HKR hqv hhk (fun s => Hk.ob 5 hex hats (HandSHeadRun.getT s)) 20000 hnames w := by
  intro os
  kernel_rfl
theorem hfacts {w : World} {K : PySem.W.Frag} {h : Heap} {mg : Str → Option Value} {fa : Addr} (X : K.In h) (G : h.Ns mainGlobals mg) (hfa : mg "law" = some (.ref fa)) (c : Hk.Says hex hats hvals K) :
    ∃ fd : FuncData, (∀ (s : Shared) (v : Value), BindsTo s fd ⟨[v], []⟩ [("_law_script", v)]) ∧ ∀ base : Heap, K.In base → base.Ns mainGlobals mg → L2.FnOk (PySem.Challenge.rw_renamedhorn_k21_bad_book_texts).prog w K mg base L2.CX0 20 fa fd ["_law_script"] (spLaw K) := by
  have hx := c.ex
  simp only [hex, Bool.and_eq_true] at hx
  obtain ⟨g0, g1, g2, g3, g4, g5, g6, g7, g8, g9, g10, g11, g12, g13, g14, g15, g16, g17⟩ := hx
  simp only [hchk0, Bool.and_eq_true, decide_eq_true_eq] at g0
  obtain ⟨cg0, cpg0, chd0, cpo0, csa0, cmi0, ckc0, cha0, cmo0, cme0, cna0_0, cg1, cpg1, chd1, cpo1, csa1, cmi1, ckc1, cha1, cmo1, cme1, cna1_0, cna1_1, om_Book, om_Clause⟩ := g0
  simp only [hchk1, Bool.and_eq_true, decide_eq_true_eq] at g1
  obtain ⟨ckt0, cvr_Clause, cvg_Clause, b_cvf_Clause_LIMIT, cvr_Book, cvg_Book, b_cvf_Book_LIMIT, b_cvf_Book_NAMES, b_cvf_Book_NUMBERS, a0, fb_l0, k0, a1, fb_l1, k1, a2, fb_l2, k2, a3, fb_l3, k3, a4, fb_l4, k4, a5⟩ := g1
  simp only [hchk2, Bool.and_eq_true, decide_eq_true_eq] at g2
  obtain ⟨fb_l5, k5, a6, fb_l6, k6, a7, fb_l7, k7, a8, fb_l8, k8, a9, fb_l9, if9, k9, a10, b_pr10, pg10, pt10, fb_l10, k10, a11, fb_l11, if11, k11⟩ := g2
  simp only [hchk3, Bool.and_eq_true, decide_eq_true_eq] at g3
  obtain ⟨a12, fb_l12, if12, k12, a13, fb_l13, k13, a14, fb_l14, k14, a15, fb_l15, k15, a16, fb_l16, k16, a17, fb_l17, k17, a18, fb_l18, k18, a19, fb_l19, k19⟩ := g3
  simp only [hchk4, Bool.and_eq_true, decide_eq_true_eq] at g4
  obtain ⟨a20, fb_l20, k20, a21, fb_l21, if21, k21, a22, b_sr22, b_sf22, fb_l22, sk22, k22, a23, b_pr23, pg23, pt23, fb_l23, k23, a24, b_pr24, pg24, pt24, fb_l24, k24⟩ := g4
  simp only [hchk5, Bool.and_eq_true, decide_eq_true_eq] at g5
  obtain ⟨a25, fb_l25, if25, k25, a26, fb_l26, if26, k26, a27, fb_l27, if27, k27, a28, fb_l28, if28, k28, a29, fb_l29, k29, a30, fb_l30, k30, a31, fb_l31, k31⟩ := g5
  simp only [hchk6, Bool.and_eq_true, decide_eq_true_eq] at g6
  obtain ⟨a32, fb_l32, k32, a33, fb_l33, k33, a34, fb_l34, k34, a35, fb_l35, k35, a36, fb_l36, k36, a37, fb_l37, k37, a38, fb_l38, k38, a39, fb_l39, k39, a40⟩ := g6
  simp only [hchk7, Bool.and_eq_true, decide_eq_true_eq] at g7
  obtain ⟨fb_l40, k40, a41, fb_l41, k41, a42, fb_l42, k42, a43, fb_l43, k43, a44, fb_l44, k44, a45, fb_l45, k45, a46, fb_l46, k46, a47, fb_l47, k47, a48, fb_l48⟩ := g7
  simp only [hchk8, Bool.and_eq_true, decide_eq_true_eq] at g8
  obtain ⟨k48, a49, fb_l49, k49, a50, fb_l50, k50, a51, fb_l51, k51, a52, fb_l52, k52, a53, fb_l53, k53, a54, fb_l54, k54, a55, fb_l55, k55, a56, fb_l56, k56⟩ := g8
  simp only [hchk9, Bool.and_eq_true, decide_eq_true_eq] at g9
  obtain ⟨a57, fb_l57, k57, a58, fb_l58, k58, a59, fb_l59, k59, a60, fb_l60, k60, a61, fb_l61, k61, a62, fb_l62, k62, b_v0, b_v1, b_v2, b_v3, eg0, eg1, b_el1⟩ := g9
  simp only [hchk10, Bool.and_eq_true, decide_eq_true_eq] at g10
  obtain ⟨esa1, ega1, egg1, ein1, ecl1, efn1, eti1, ekc1, ebe1, eve1, ety1, ehd1, eic1, ess1, eup1, emr1, emo1, b_elf1, eg2, b_el2, esa2, ega2, egg2, ein2, ecl2⟩ := g10
  simp only [hchk11, Bool.and_eq_true, decide_eq_true_eq] at g11
  obtain ⟨efn2, eti2, ekc2, ebe2, eve2, ety2, ehd2, eic2, ess2, eup2, emr2, emo2, b_elf2, eg3, b_el3, esa3, ega3, egg3, ein3, ecl3, efn3, eti3, ekc3, ebe3, eve3⟩ := g11
  simp only [hchk12, Bool.and_eq_true, decide_eq_true_eq] at g12
  obtain ⟨ety3, ehd3, eic3, ess3, eup3, emr3, emo3, b_elf3, eg4, b_el4, esa4, ega4, egg4, ein4, ecl4, efn4, eti4, ekc4, ebe4, eve4, ety4, ehd4, eic4, ess4, eup4⟩ := g12
  simp only [hchk13, Bool.and_eq_true, decide_eq_true_eq] at g13
  obtain ⟨emr4, emo4, b_elf4, eg5, b_el5, esa5, ega5, egg5, ein5, ecl5, efn5, eti5, ekc5, ebe5, eve5, ety5, ehd5, eic5, ess5, eup5, emr5, emo5, b_elf5, eg6, b_el6⟩ := g13
  simp only [hchk14, Bool.and_eq_true, decide_eq_true_eq] at g14
  obtain ⟨esa6, ega6, egg6, ein6, ecl6, efn6, eti6, ekc6, ebe6, eve6, ety6, ehd6, eic6, ess6, eup6, emr6, emo6, b_elf6, kt0, kt1, kt2, kt3, kt4, kt5, kt6⟩ := g14
  simp only [hchk15, Bool.and_eq_true, decide_eq_true_eq] at g15
  obtain ⟨kt7, kt8, kt9, kt10, kt11, kt12, kt13, kt14, kt15, kt16, kt17, kt18, kt19, kt20, kt21, kt22, kt23, kt24, kt25, kt26, kt27, kt28, kt29, sun_BothSigns_BadLiteral, sun_TooMany_BadLiteral⟩ := g15
  simp only [hchk16, Bool.and_eq_true, decide_eq_true_eq] at g16
  obtain ⟨sun_TooMany_BothSigns, sun_BadLiteral_BothSigns, sun_BadLiteral_TooMany, sun_BothSigns_TooMany, sun_BadNumber_TooMany, sun_TooMany_BadNumber, sun_BadText_BadLiteral, sun_BadText_BadNumber, sun_BadText_TooMany, z0, z1, z2, z3, z4, z5, z6, z7, z8, z9, z10, z11, z12, z13, z14, z15⟩ := g16
  simp only [hchk17, Bool.and_eq_true, decide_eq_true_eq] at g17
  obtain ⟨z16, z17, zsu, z19, zop, zsp, ztk⟩ := g17
  obtain ⟨_, cvf_Clause_LIMIT⟩ := Hk.ib_get b_cvf_Clause_LIMIT
  obtain ⟨_, cvf_Book_LIMIT⟩ := Hk.ib_get b_cvf_Book_LIMIT
  obtain ⟨_, cvf_Book_NAMES⟩ := Hk.ib_get b_cvf_Book_NAMES
  obtain ⟨_, cvf_Book_NUMBERS⟩ := Hk.ib_get b_cvf_Book_NUMBERS
  obtain ⟨_, _, _, _, _, _, _, _, _, l0, c0⟩ := Hk.fb_get (c.at_ 0 rfl rfl) fb_l0
  obtain ⟨_, _, _, _, _, _, _, _, _, l1, c1⟩ := Hk.fb_get (c.at_ 1 rfl rfl) fb_l1
  obtain ⟨_, _, _, _, _, _, _, _, _, l2, c2⟩ := Hk.fb_get (c.at_ 2 rfl rfl) fb_l2
  obtain ⟨_, _, _, _, _, _, _, _, _, l3, c3⟩ := Hk.fb_get (c.at_ 3 rfl rfl) fb_l3
  obtain ⟨_, _, _, _, _, _, _, _, _, l4, c4⟩ := Hk.fb_get (c.at_ 4 rfl rfl) fb_l4
  obtain ⟨_, _, _, _, _, _, _, _, _, l5, c5⟩ := Hk.fb_get (c.at_ 5 rfl rfl) fb_l5
  obtain ⟨_, _, _, _, _, _, _, _, _, l6, c6⟩ := Hk.fb_get (c.at_ 6 rfl rfl) fb_l6
  obtain ⟨_, _, _, _, _, _, _, _, _, l7, c7⟩ := Hk.fb_get (c.at_ 7 rfl rfl) fb_l7
  obtain ⟨_, _, _, _, _, _, _, _, _, l8, c8⟩ := Hk.fb_get (c.at_ 8 rfl rfl) fb_l8
  obtain ⟨_, _, _, _, _, _, _, _, _, l9, c9⟩ := Hk.fb_get (c.at_ 9 rfl rfl) fb_l9
  obtain ⟨_, pr10⟩ := Hk.pb_get b_pr10
  obtain ⟨_, _, _, _, _, _, _, _, _, l10, c10⟩ := Hk.fb_get (c.at_ 10 rfl rfl) fb_l10
  obtain ⟨_, _, _, _, _, _, _, _, _, l11, c11⟩ := Hk.fb_get (c.at_ 11 rfl rfl) fb_l11
  obtain ⟨_, _, _, _, _, _, _, _, _, l12, c12⟩ := Hk.fb_get (c.at_ 12 rfl rfl) fb_l12
  obtain ⟨_, _, _, _, _, _, _, _, _, l13, c13⟩ := Hk.fb_get (c.at_ 13 rfl rfl) fb_l13
  obtain ⟨_, _, _, _, _, _, _, _, _, l14, c14⟩ := Hk.fb_get (c.at_ 14 rfl rfl) fb_l14
  obtain ⟨_, _, _, _, _, _, _, _, _, l15, c15⟩ := Hk.fb_get (c.at_ 15 rfl rfl) fb_l15
  obtain ⟨_, _, _, _, _, _, _, _, _, l16, c16⟩ := Hk.fb_get (c.at_ 16 rfl rfl) fb_l16
  obtain ⟨_, _, _, _, _, _, _, _, _, l17, c17⟩ := Hk.fb_get (c.at_ 17 rfl rfl) fb_l17
  obtain ⟨_, _, _, _, _, _, _, _, _, l18, c18⟩ := Hk.fb_get (c.at_ 18 rfl rfl) fb_l18
  obtain ⟨_, _, _, _, _, _, _, _, _, l19, c19⟩ := Hk.fb_get (c.at_ 19 rfl rfl) fb_l19
  obtain ⟨_, _, _, _, _, _, _, _, _, l20, c20⟩ := Hk.fb_get (c.at_ 20 rfl rfl) fb_l20
  obtain ⟨_, _, _, _, _, _, _, _, _, l21, c21⟩ := Hk.fb_get (c.at_ 21 rfl rfl) fb_l21
  obtain ⟨_, sr22⟩ := Hk.pb_get b_sr22
  have sf22 := Hk.gb_get b_sf22
  obtain ⟨_, _, _, _, _, _, _, _, _, l22, c22⟩ := Hk.fb_get (c.at_ 22 rfl rfl) fb_l22
  obtain ⟨_, pr23⟩ := Hk.pb_get b_pr23
  obtain ⟨_, _, _, _, _, _, _, _, _, l23, c23⟩ := Hk.fb_get (c.at_ 23 rfl rfl) fb_l23
  obtain ⟨_, pr24⟩ := Hk.pb_get b_pr24
  obtain ⟨_, _, _, _, _, _, _, _, _, l24, c24⟩ := Hk.fb_get (c.at_ 24 rfl rfl) fb_l24
  obtain ⟨_, _, _, _, _, _, _, _, _, l25, c25⟩ := Hk.fb_get (c.at_ 25 rfl rfl) fb_l25
  obtain ⟨_, _, _, _, _, _, _, _, _, l26, c26⟩ := Hk.fb_get (c.at_ 26 rfl rfl) fb_l26
  obtain ⟨_, _, _, _, _, _, _, _, _, l27, c27⟩ := Hk.fb_get (c.at_ 27 rfl rfl) fb_l27
  obtain ⟨_, _, _, _, _, _, _, _, _, l28, c28⟩ := Hk.fb_get (c.at_ 28 rfl rfl) fb_l28
  obtain ⟨_, _, _, _, _, _, _, _, _, l29, c29⟩ := Hk.fb_get (c.at_ 29 rfl rfl) fb_l29
  obtain ⟨_, _, _, _, _, _, _, _, _, l30, c30⟩ := Hk.fb_get (c.at_ 30 rfl rfl) fb_l30
  obtain ⟨_, _, _, _, _, _, _, _, _, l31, c31⟩ := Hk.fb_get (c.at_ 31 rfl rfl) fb_l31
  obtain ⟨_, _, _, _, _, _, _, _, _, l32, c32⟩ := Hk.fb_get (c.at_ 32 rfl rfl) fb_l32
  obtain ⟨_, _, _, _, _, _, _, _, _, l33, c33⟩ := Hk.fb_get (c.at_ 33 rfl rfl) fb_l33
  obtain ⟨_, _, _, _, _, _, _, _, _, l34, c34⟩ := Hk.fb_get (c.at_ 34 rfl rfl) fb_l34
  obtain ⟨_, _, _, _, _, _, _, _, _, l35, c35⟩ := Hk.fb_get (c.at_ 35 rfl rfl) fb_l35
  obtain ⟨_, _, _, _, _, _, _, _, _, l36, c36⟩ := Hk.fb_get (c.at_ 36 rfl rfl) fb_l36
  obtain ⟨_, _, _, _, _, _, _, _, _, l37, c37⟩ := Hk.fb_get (c.at_ 37 rfl rfl) fb_l37
  obtain ⟨_, _, _, _, _, _, _, _, _, l38, c38⟩ := Hk.fb_get (c.at_ 38 rfl rfl) fb_l38
  obtain ⟨_, _, _, _, _, _, _, _, _, l39, c39⟩ := Hk.fb_get (c.at_ 39 rfl rfl) fb_l39
  obtain ⟨_, _, _, _, _, _, _, _, _, l40, c40⟩ := Hk.fb_get (c.at_ 40 rfl rfl) fb_l40
  obtain ⟨_, _, _, _, _, _, _, _, _, l41, c41⟩ := Hk.fb_get (c.at_ 41 rfl rfl) fb_l41
  obtain ⟨_, _, _, _, _, _, _, _, _, l42, c42⟩ := Hk.fb_get (c.at_ 42 rfl rfl) fb_l42
  obtain ⟨_, _, _, _, _, _, _, _, _, l43, c43⟩ := Hk.fb_get (c.at_ 43 rfl rfl) fb_l43
  obtain ⟨_, _, _, _, _, _, _, _, _, l44, c44⟩ := Hk.fb_get (c.at_ 44 rfl rfl) fb_l44
  obtain ⟨_, _, _, _, _, _, _, _, _, l45, c45⟩ := Hk.fb_get (c.at_ 45 rfl rfl) fb_l45
  obtain ⟨_, _, _, _, _, _, _, _, _, l46, c46⟩ := Hk.fb_get (c.at_ 46 rfl rfl) fb_l46
  obtain ⟨_, _, _, _, _, _, _, _, _, l47, c47⟩ := Hk.fb_get (c.at_ 47 rfl rfl) fb_l47
  obtain ⟨_, _, _, _, _, _, _, _, _, l48, c48⟩ := Hk.fb_get (c.at_ 48 rfl rfl) fb_l48
  obtain ⟨_, _, _, _, _, _, _, _, _, l49, c49⟩ := Hk.fb_get (c.at_ 49 rfl rfl) fb_l49
  obtain ⟨_, _, _, _, _, _, _, _, _, l50, c50⟩ := Hk.fb_get (c.at_ 50 rfl rfl) fb_l50
  obtain ⟨_, _, _, _, _, _, _, _, _, l51, c51⟩ := Hk.fb_get (c.at_ 51 rfl rfl) fb_l51
  obtain ⟨_, _, _, _, _, _, _, _, _, l52, c52⟩ := Hk.fb_get (c.at_ 52 rfl rfl) fb_l52
  obtain ⟨_, _, _, _, _, _, _, _, _, l53, c53⟩ := Hk.fb_get (c.at_ 53 rfl rfl) fb_l53
  obtain ⟨_, _, _, _, _, _, _, _, _, l54, c54⟩ := Hk.fb_get (c.at_ 54 rfl rfl) fb_l54
  obtain ⟨_, _, _, _, _, _, _, _, _, l55, c55⟩ := Hk.fb_get (c.at_ 55 rfl rfl) fb_l55
  obtain ⟨_, _, _, _, _, _, _, _, _, l56, c56⟩ := Hk.fb_get (c.at_ 56 rfl rfl) fb_l56
  obtain ⟨_, _, _, _, _, _, _, _, _, l57, c57⟩ := Hk.fb_get (c.at_ 57 rfl rfl) fb_l57
  obtain ⟨_, _, _, _, _, _, _, _, _, l58, c58⟩ := Hk.fb_get (c.at_ 58 rfl rfl) fb_l58
  obtain ⟨_, _, _, _, _, _, _, _, _, l59, c59⟩ := Hk.fb_get (c.at_ 59 rfl rfl) fb_l59
  obtain ⟨_, _, _, _, _, _, _, _, _, l60, c60⟩ := Hk.fb_get (c.at_ 60 rfl rfl) fb_l60
  obtain ⟨_, _, _, _, _, _, _, _, _, l61, c61⟩ := Hk.fb_get (c.at_ 61 rfl rfl) fb_l61
  obtain ⟨_, _, _, _, _, _, _, _, _, l62, c62⟩ := Hk.fb_get (c.at_ 62 rfl rfl) fb_l62
  obtain ⟨_, v0⟩ := Hk.sb_get b_v0
  obtain ⟨_, v1⟩ := Hk.sb_get b_v1
  obtain ⟨_, v2⟩ := Hk.nb_get b_v2
  obtain ⟨_, v3⟩ := Hk.nb_get b_v3
  obtain ⟨_, _, _, _, _, _, _, _, _, _, _, _, _, _, _, el1, er1⟩ := Hk.eb_get b_el1
  obtain ⟨_, _, _, _, _, _, _, _, _, elf1, ecd1, _, _, _, _, _, _, elc1, evs1, efi1, _, _, _, ece1⟩ := Hk.eib_get (c.at_ 63 rfl rfl) b_elf1
  obtain ⟨_, _, _, _, _, _, _, _, _, _, _, _, _, _, _, el2, er2⟩ := Hk.eb_get b_el2
  obtain ⟨_, _, _, _, _, _, _, _, _, elf2, ecd2, _, _, _, _, _, _, elc2, evs2, efi2, _, _, _, ece2⟩ := Hk.eib_get (c.at_ 64 rfl rfl) b_elf2
  obtain ⟨_, _, _, _, _, _, _, _, _, _, _, _, _, _, _, el3, er3⟩ := Hk.eb_get b_el3
  obtain ⟨_, _, _, _, _, _, _, _, _, elf3, ecd3, _, _, _, _, _, _, elc3, evs3, efi3, _, _, _, ece3⟩ := Hk.eib_get (c.at_ 65 rfl rfl) b_elf3
  obtain ⟨_, _, _, _, _, _, _, _, _, _, _, _, _, _, _, el4, er4⟩ := Hk.eb_get b_el4
  obtain ⟨_, _, _, _, _, _, _, _, _, elf4, ecd4, _, _, _, _, _, _, elc4, evs4, efi4, _, _, _, ece4⟩ := Hk.eib_get (c.at_ 66 rfl rfl) b_elf4
  obtain ⟨_, _, _, _, _, _, _, _, _, _, _, _, _, _, _, el5, er5⟩ := Hk.eb_get b_el5
  obtain ⟨_, _, _, _, _, _, _, _, _, elf5, ecd5, _, _, _, _, _, _, elc5, evs5, efi5, _, _, _, ece5⟩ := Hk.eib_get (c.at_ 67 rfl rfl) b_elf5
  obtain ⟨_, _, _, _, _, _, _, _, _, _, _, _, _, _, _, el6, er6⟩ := Hk.eb_get b_el6
  obtain ⟨_, _, _, _, _, _, _, _, _, elf6, ecd6, _, _, _, _, _, _, elc6, evs6, efi6, _, _, _, ece6⟩ := Hk.eib_get (c.at_ 68 rfl rfl) b_elf6
  exact all_mk (l := PySem.Challenge.rw_renamedhorn_k21_bad_book_texts) X G hfa cg0 cpg0 chd0 cpo0 csa0 cmi0 ckc0 cha0 cmo0 cme0 cna0_0 cg1 cpg1 chd1 cpo1 csa1 cmi1 ckc1 cha1 cmo1 cme1 cna1_0 cna1_1 om_Book om_Clause ckt0 cvr_Clause cvg_Clause cvf_Clause_LIMIT cvr_Book cvg_Book cvf_Book_LIMIT cvf_Book_NAMES cvf_Book_NUMBERS a0 l0 c0 k0 a1 l1 c1 k1 a2 l2 c2 k2 a3 l3 c3 k3 a4 l4 c4 k4 a5 l5 c5 k5 a6 l6 c6 k6 a7 l7 c7 k7 a8 l8 c8 k8 a9 l9 if9 c9 k9 a10 pr10 pg10 pt10 l10 c10 k10 a11 l11 if11 c11 k11 a12 l12 if12 c12 k12 a13 l13 c13 k13 a14 l14 c14 k14 a15 l15 c15 k15 a16 l16 c16 k16 a17 l17 c17 k17 a18 l18 c18 k18 a19 l19 c19 k19 a20 l20 c20 k20 a21 l21 if21 c21 k21 a22 sr22 sf22 l22 sk22 c22 k22 a23 pr23 pg23 pt23 l23 c23 k23 a24 pr24 pg24 pt24 l24 c24 k24 a25 l25 if25 c25 k25 a26 l26 if26 c26 k26 a27 l27 if27 c27 k27 a28 l28 if28 c28 k28 a29 l29 c29 k29 a30 l30 c30 k30 a31 l31 c31 k31 a32 l32 c32 k32 a33 l33 c33 k33 a34 l34 c34 k34 a35 l35 c35 k35 a36 l36 c36 k36 a37 l37 c37 k37 a38 l38 c38 k38 a39 l39 c39 k39 a40 l40 c40 k40 a41 l41 c41 k41 a42 l42 c42 k42 a43 l43 c43 k43 a44 l44 c44 k44 a45 l45 c45 k45 a46 l46 c46 k46 a47 l47 c47 k47 a48 l48 c48 k48 a49 l49 c49 k49 a50 l50 c50 k50 a51 l51 c51 k51 a52 l52 c52 k52 a53 l53 c53 k53 a54 l54 c54 k54 a55 l55 c55 k55 a56 l56 c56 k56 a57 l57 c57 k57 a58 l58 c58 k58 a59 l59 c59 k59 a60 l60 c60 k60 a61 l61 c61 k61 a62 l62 c62 k62 v0 v1 v2 v3 eg0 eg1 el1 er1 esa1 ega1 egg1 ein1 ecl1 efn1 eti1 ekc1 ebe1 eve1 ety1 ehd1 eic1 ess1 eup1 emr1 emo1 elf1 ecd1 elc1 evs1 efi1 ece1 eg2 el2 er2 esa2 ega2 egg2 ein2 ecl2 efn2 eti2 ekc2 ebe2 eve2 ety2 ehd2 eic2 ess2 eup2 emr2 emo2 elf2 ecd2 elc2 evs2 efi2 ece2 eg3 el3 er3 esa3 ega3 egg3 ein3 ecl3 efn3 eti3 ekc3 ebe3 eve3 ety3 ehd3 eic3 ess3 eup3 emr3 emo3 elf3 ecd3 elc3 evs3 efi3 ece3 eg4 el4 er4 esa4 ega4 egg4 ein4 ecl4 efn4 eti4 ekc4 ebe4 eve4 ety4 ehd4 eic4 ess4 eup4 emr4 emo4 elf4 ecd4 elc4 evs4 efi4 ece4 eg5 el5 er5 esa5 ega5 egg5 ein5 ecl5 efn5 eti5 ekc5 ebe5 eve5 ety5 ehd5 eic5 ess5 eup5 emr5 emo5 elf5 ecd5 elc5 evs5 efi5 ece5 eg6 el6 er6 esa6 ega6 egg6 ein6 ecl6 efn6 eti6 ekc6 ebe6 eve6 ety6 ehd6 eic6 ess6 eup6 emr6 emo6 elf6 ecd6 elc6 evs6 efi6 ece6 kt0 kt1 kt2 kt3 kt4 kt5 kt6 kt7 kt8 kt9 kt10 kt11 kt12 kt13 kt14 kt15 kt16 kt17 kt18 kt19 kt20 kt21 kt22 kt23 kt24 kt25 kt26 kt27 kt28 kt29 sun_BothSigns_BadLiteral sun_TooMany_BadLiteral sun_TooMany_BothSigns sun_BadLiteral_BothSigns sun_BadLiteral_TooMany sun_BothSigns_TooMany sun_BadNumber_TooMany sun_TooMany_BadNumber sun_BadText_BadLiteral sun_BadText_BadNumber sun_BadText_TooMany z0 z1 z2 z3 z4 z5 z6 z7 z8 z9 z10 z11 z12 z13 z14 z15 z16 z17 zsu z19 zop zsp ztk (by first | rfl | decide +kernel)
end
end Hk21
open PySem PySem.W PySem.Calls PyProof.Rows
set_option maxHeartbeats 0 in
theorem PySem.Challenge.cw_renamedhorn_k21_bad_book_texts_holds : PySem.Challenge.rw_renamedhorn_k21_bad_book_texts.Holds := by
  w_on; o_law
  refine HandSHeadRun.head_any (r := OpenLaw.row PySem.Challenge.rw_renamedhorn_k21_bad_book_texts) (q := Hk21.hqv) (H := Hk21.hhk) (ob := fun s => Hk.ob 5 Hk21.hex Hk21.hats (HandSHeadRun.getT s)) (M := 20000) (loose := Hk21.hnames) (d := HandSHeadRun.topDef (OpenLaw.row PySem.Challenge.rw_renamedhorn_k21_bad_book_texts).prog 72) (kwd := []) (fun s => Hk.ob_eq s)
    (by kernel_rfl) (fun s => by kernel_rfl) Hk21.hrun (by kernel_rfl) (by kernel_rfl) (by kernel_rfl) (by rfl) (by first | assumption | decide +kernel) (by decide +kernel) ⟨rfl, rfl, rfl, rfl, rfl, by decide +kernel⟩ ?hw ?hc
  case hw => w_witness2
  case hc =>
    refine L2.walk_ofE (l := PySem.Challenge.rw_renamedhorn_k21_bad_book_texts) (n := 63) (k := 20) (x := "_law_script") (CX := L2.CX0) rfl (by decide) (by kernel_rfl) ⟨rfl, by decide, by decide⟩ ?F (fun _ _ _ _ z => z)
    intro w mg fa h Y G hmg0
    obtain ⟨K, KX, c⟩ := Y
    have hmg : mg ("law" : PySem.Str) = some (.ref fa) := by
      have e : (HandSHeadRun.topDef (OpenLaw.row PySem.Challenge.rw_renamedhorn_k21_bad_book_texts).prog 72).name = ("law" : PySem.Str) := by kernel_rfl
      rw [← e]
      exact hmg0
    obtain ⟨fd, hb, hF⟩ := Hk21.hfacts (w := w) KX G hmg c
    exact ⟨K, fd, Hk21.spLaw K, KX, hb, fun H a ns hl _ hS => ⟨a, ns, rfl, hS, hl, fun _ => rfl⟩, hF⟩
