import PyProof.Rows.All
import Wide.All
import OpenK.AllK
import Wide.FinOn
import KE.KExcSuper
import HandS.ForMost
import HandS.Exc
import HandS.ExcInit
import HandS.ExcField
import HandS.ExcValue
import HandS.Style
import HandS.Walk
import HandS.IsInst
import HandS.More
import KE.KExcIs
import PyProof.NeKinds
import KE.KEqDict
import HandS.ExcIs
import HandS.TryMany
import HandS.Lambda
import HandS.EndTab
import HandS.CallLocal
import HandS.DictSubView
import HandS.Sort
import HandS.Gcd
import HandS.Wide
import KE.KDictList
import KE.KMathGC
import HandS.Codes
import HandS.WordsExc
import KE.KNestM
import PySem.Challenge.RW_turnindex_k83_refused_alike_texts
set_option Elab.async false
set_option linter.all false
set_option maxRecDepth 100000
set_option maxHeartbeats 4000000
/-! ErrKit: an error class of the program: __init__ says super().__init__(text), then keeps its one value. -/
namespace EK
open PySem PySem.W PySem.Calls PyProof.Rows PySem.HandSPX L2
/-! ### the text of such an __init__ -/
def eArgs (f : Str) (p1 p2 : Pos) : Arguments := { posonlyargs := [], args := [{ arg := "self", annotation := none, pos := p1 }, { arg := f, annotation := none, pos := p2 }], vararg := none, kwonlyargs := [], kw_defaults := [], kwarg := none, defaults := [] }
def eBody (f msg : Str) (a1 a2 a3 a4 a5 a6 b1 b2 b3 b4 : Pos) : List Stmt :=
  [.Expr (.Call (.Attribute (.Call (.Name "super" a1) [] [] a2) "__init__" a3) [.Constant (.str msg) 0 a4] [] a5) a6, .Assign [.Attribute (.Name "self" b1) f b2] (.Name f b3) b4]
def eScope (f : Str) : Scope := { kind := .function, names := [(PySem.Str.ofString "self", .local), (f, .local), (PySem.Str.ofString "__class__", .free), (PySem.Str.ofString "super", .globalImplicit)], isGenerator := false, isCoroutine := false, more := [] }

/-- the row super().__init__(msg) of the text, as a call of a method -/
def SupCall (a1 a2 a3 a4 a5 : Pos) (msg : Str) (env : Env) : Prop := ∃ pl : Sem Bool,
  eval (.Call (.Attribute (.Call (.Name "super" a1) [] [] a2) "__init__" a3) [.Constant (.str msg) 0 a4] [] a5) env = (do
    let ov ← attributeBase (.Call (.Name "super" a1) [] [] a2) "__init__" env (eval (.Call (.Name "super" a1) [] [] a2) env)
    standAt a3.atName
    let (g, first) ← holding [ov] (getMethod ov "__init__" pl)
    callWith a5 g first (backTo a5 (starEach [.Constant (.str msg) 0 a4] env)) [])
/-- what the top has written of the class x at C, of its __init__ at fI -/
structure ErrTxt (P : Program) (K : Frag) (mg : Str → Option Value) (x f : Str) (C fI : Addr) : Prop where
  gC : mg x = some (.ref C)
  cls : ∃ nm q N bs bm sn sub ab col dd k0 k1 k2 k3 k5, K.lookup C = some (excClassObj nm q C N bs bm true sn sub ab col dd k0 k1 k2 k3 k5 "ValueError.__new__") ∧ refsVE bm = true
  sa : findIn K (.ref C) "__setattr__" = some (some (.builtin "object.__setattr__"))
  ga : findIn K (.ref C) "__getattribute__" = some (some (.builtin "BaseException.__getattribute__"))
  gg : findIn K (.ref C) "__getattr__" = some none
  noN : findIn K (.ref C) f = some none
  iC : findIn K (.ref C) "__init__" = some (some (.ref fI))
  tC : typeIn K (.ref fI) = some (.type "function")
  kC : keepIn K (.ref C) = true
  exC : subIn K (.ref C) (.type "BaseException") = some true
  tyC : typeIn K (.ref C) = some (.type "type")
  hdC : hasDictIn K C = true
  te : exmOne K (.ref C) (.ref C) = some true
  hB : subIn K (.ref C) (.type "ValueError") = some true
  si : ks_superIn K C C "__init__" = some (some (.builtin "ValueError.__init__"))
  ho : nsIn K cStatics "thirdparty.any" = some none
  su : mg "super" = none
  mC : mroIn K C (.ref C) = some true
  fok : f ≠ "self" ∧ f ≠ "__class__" ∧ f ≠ "super" ∧ f ≠ "__debug__"
  top : (P.main.scope.names.lookup ("super" : Str)).isSome = false
  fn : ∃ (oc : Value) (od : Option Addr) (qn msg : Str) (doc pm : Value) (an : Option Addr) (cda cc : Addr) (ct : Value) (osl : Array (Option Value)) (p1 p2 a1 a2 a3 a4 a5 a6 b1 b2 b3 b4 : Pos),
    K.lookup fI = some ⟨oc, od, .func (ksFn "__init__" qn (eArgs f p1 p2) (eBody f msg a1 a2 a3 a4 a5 a6 b1 b2 b3 b4) (eScope f) .none .none doc pm an (.ref cda) ct cc), osl⟩ ∧ codeIn K (.ref cda) qn = true ∧
    (∀ u v : Value, bindArgs (ksFn "__init__" qn (eArgs f p1 p2) (eBody f msg a1 a2 a3 a4 a5 a6 b1 b2 b3 b4) (eScope f) .none .none doc pm an (.ref cda) ct cc) ⟨[u, v], []⟩ = pure [(("self" : Str), u), (f, v)]) ∧
    (∀ L : Addr, SupCall a1 a2 a3 a4 a5 msg (callEnv (ksFn "__init__" qn (eArgs f p1 p2) (eBody f msg a1 a2 a3 a4 a5 a6 b1 b2 b3 b4) (eScope f) .none .none doc pm an (.ref cda) ct cc) L fI)) ∧
    (∃ (ccl : Value) (cdd : Option Addr) (ccs : Array (Option Value)) (vs : Array Value) (file : Str) (tf : Tok), K.lookup cda = some ⟨ccl, cdd, .fields vs, ccs⟩ ∧ vs[2]? = some (.str file tf) ∧ ((P.main.file : Str) == file) = true) ∧
    ∃ (cl : Value) (cld : Option Addr) (csl : Array (Option Value)), K.lookup cc = some ⟨cl, cld, .cell (some (.ref C)), csl⟩
theorem one_size (v : Value) : [v].length ≤ sizeLine := by
  rw [sizeLine_eq]
  exact (by decide : 1 ≤ 16777216)
/-- what __init__ leaves of the exception at y -/
structure MadeI (h h' : Heap) (y C dx : Addr) (f : Str) (v : Value) : Prop where
  keep : ∀ b o, b ≠ y → h.get? b = some o → h'.get? b = some o
  obj : ∃ t1 : Addr, h'.get? y = some { cls := .ref C, dict := some dx, data := .fields #[.ref t1, .none, .none, .none, .bool false, .none] }
  dbig : h.objs.size ≤ dx
  dne : dx ≠ y
  ns : h'.Ns1 dx (fun z => if z = f then some v else none)
theorem kept_but {K : Frag} {h h' : Heap} {x : Addr} (X : K.In h) (hx : K.lookup x = none) (k : ∀ b o, b ≠ x → h.get? b = some o → h'.get? b = some o) : K.In h' := fun a o e =>
  k a o (fun z => by rw [z, hx] at e; cases e) (X a o e)
section
variable {prog : Program} {w : World} {A : Around} {E : Value → Shared → Prop} {R : Result → Shared → Prop} {s : Shared} {K : Frag} {mg : Str → Option Value} {C fI : Addr} {x f : Str}
/-- the method-wrapper that super().__init__ gives is called -/
theorem call_mw {u e t0 : Addr} {rest : List Value} {nm q : Str} {C N : Addr} {bs bm : List Value} {hdct : Bool} {sn : List Str} {sub : List Value} {ab : Bool} {col : Option Bool} {dd : Option Addr} {k0 k1 k2 k3 k5 : Option Value} {Q : Value → Shared → Prop}
    (hC : s.heap.get? C = some (excClassObj nm q C N bs bm hdct sn sub ab col dd k0 k1 k2 k3 k5 "ValueError.__new__")) (he : s.heap.get? e = some (excO C t0)) (hu : s.heap.get? u = some (kxs_mw "ValueError.__init__" e)) (hrest : rest.length ≤ sizeLine)
    (hq : ∀ h' t1, (∀ b o, b ≠ e → s.heap.get? b = some o → h'.get? b = some o) → h'.get? e = some (excO C t1) → Q .none { s with heap := h' }) :
    wpAny (model prog w) A (call (.ref u) rest) Q E s := by
  obtain ⟨hh, g, d, tk, os⟩ := s
  refine wpAny_call (codeAny_of_tree ?_)
  show wpAny _ A.in1 (callAny (.ref u) ⟨rest, []⟩) _ _ _
  simp only [callAny]
  refine wpAny_bind (wpAny_load hu ?_)
  simp only [kxs_mw, show (Value.type "method-wrapper" == Value.type "method" || Value.type "method-wrapper" == Value.type "builtin_function_or_method" || Value.type "method-wrapper" == Value.type "method-wrapper") = true by decide, if_true]
  refine KFB.if_so (by decide) ?_
  refine wpAny_bind (check_bound_init F.excBase_ValueError.toExcCallFacts hC he rfl ?_)
  refine wpAny_bind (wpAny_pure (wpAny_pure ?_))
  refine ⟨plainId_quiet F.excBase_ValueError.init.plain _, codeAny_builtin F.excBase_ValueError.initEntry ?_⟩
  exact exc_init_tree (cls := .ref C) (t0 := t0) (dv := none) (c2 := .none) (c3 := .none) (b4 := .bool false) he hrest fun h' k o _ => hq h' _ k o
theorem look_self (f : Str) : (eScope f).names.lookup ("self" : Str) = some .local := by
  show List.lookup ("self" : Str) ((("self" : Str), NameKind.local) :: _) = _
  rw [List.lookup_cons]
  simp
theorem look_f {f : Str} (h : f ≠ "self") : (eScope f).names.lookup f = some .local := by
  have e : (f == ("self" : Str)) = false := by simpa using h
  show List.lookup f ((("self" : Str), NameKind.local) :: (f, NameKind.local) :: _) = _
  rw [List.lookup_cons, e, List.lookup_cons]
  simp
theorem look_cls {f : Str} (h : f ≠ "__class__") : (eScope f).names.lookup ("__class__" : Str) = some .free := by
  have e : ((("__class__" : Str)) == f) = false := by simpa using Ne.symm h
  have e2 : ((("__class__" : Str)) == ("self" : Str)) = false := by decide +kernel
  show List.lookup ("__class__" : Str) ((("self" : Str), NameKind.local) :: (f, NameKind.local) :: (("__class__" : Str), NameKind.free) :: _) = _
  rw [List.lookup_cons, e2, List.lookup_cons, e, List.lookup_cons]
  simp
theorem look_super {f : Str} (h : f ≠ "super") : (eScope f).names.lookup ("super" : Str) = some .globalImplicit := by
  have e : ((("super" : Str)) == f) = false := by simpa using Ne.symm h
  have e2 : ((("super" : Str)) == ("self" : Str)) = false := by decide +kernel
  have e3 : ((("super" : Str)) == ("__class__" : Str)) = false := by decide +kernel
  show List.lookup ("super" : Str) ((("self" : Str), NameKind.local) :: (f, NameKind.local) :: (("__class__" : Str), NameKind.free) :: (("super" : Str), NameKind.globalImplicit) :: []) = _
  rw [List.lookup_cons, e2, List.lookup_cons, e, List.lookup_cons, e3, List.lookup_cons]
  simp
theorem bl_self {f : Str} (h : f ≠ "self") (a v : Value) : List.lookup ("self" : Str) ([(("self" : Str), a), (f, v)].reverse) = some a := by
  have e : ((("self" : Str)) == f) = false := by simpa using Ne.symm h
  show List.lookup ("self" : Str) ((f, v) :: (("self" : Str), a) :: []) = _
  rw [List.lookup_cons, e, List.lookup_cons]
  simp
theorem bl_f {f : Str} (a v : Value) : List.lookup f ([(("self" : Str), a), (f, v)].reverse) = some v := by
  show List.lookup f ((f, v) :: (("self" : Str), a) :: []) = _
  rw [List.lookup_cons]
  simp
theorem err_init (T : ErrTxt prog K mg x f C fI) {y t0 : Addr} {v : Value} (X : K.In s.heap) (hlim : s.heap.NoLimit) (hg : s.heap.Ns mainGlobals mg) (hb : ∃ mb, s.heap.Ns builtinsNs mb ∧ ∀ z : Str, z ≠ "__name__" → mb z = bootBuiltins z)
    (hx : s.heap.get? y = some (excO C t0)) (hnx : K.lookup y = none) (hroom : A.depth < recursionLimit)
    (hq : ∀ h' tk dx, MadeI s.heap h' y C dx f v → R (.ok (.ret .none)) { s with heap := h', toks := tk }) :
    codeAny (model prog w) A (.call (.ref fI) ⟨[.ref y, v], []⟩) R s := by
  obtain ⟨oc, od, qn, msg, doc, pm, an, cda, cc, ct, osl, p1, p2, a1, a2, a3, a4, a5, a6, b1, b2, b3, b4, ho, hcd, hB, hS, ⟨ccl, cdd, ccs, vs, file, tf, hcda, hvs, hfile⟩, ⟨cl, cld, csl, hcell⟩⟩ := T.fn
  obtain ⟨nm, q, N, bs, bm, sn, sub, ab, col, dd, k0, k1, k2, k3, k5, hC, hbm⟩ := T.cls
  obtain ⟨mb, hbn, hbv⟩ := hb
  obtain ⟨hf1, hf2, hf3, hf4⟩ := T.fok
  have hcl : clsIn K C = some { name := nm, bases := bs, mro := .ref C :: bm, ns := N, qualname := q, hasDict := true, slotNames := sn, subclasses := sub, abstract := ab, collection := col, hasDel := false } := by unfold clsIn; rw [hC] <;> rfl
  refine ks_codeAny_call_defAt (fd := ksFn "__init__" qn (eArgs f p1 p2) (eBody f msg a1 a2 a3 a4 a5 a6 b1 b2 b3 b4) (eScope f) .none .none doc pm an (.ref cda) ct cc) (body := eBody f msg a1 a2 a3 a4 a5 a6 b1 b2 b3 b4) (binds := [(("self" : Str), Value.ref y), (f, v)]) hroom (X _ _ ho) rfl hlim (codeRec_of X hcd) rfl (BindsTo.of_eq (hB _ _)) ?_ ?_ (fun h₁ hns k => ?_) rfl rfl rfl
  · intro z hz
    rcases List.mem_cons.mp hz with rfl | hz
    · exact fun e => nomatch e
    rcases List.mem_cons.mp hz with rfl | hz
    · exact fun e => nomatch e
    rcases List.mem_cons.mp hz with rfl | hz
    · exact fun e => nomatch e
    rcases List.mem_cons.mp hz with rfl | hz
    · exact fun e => nomatch e
    · cases hz
  · intro z hz
    rcases List.mem_cons.mp hz with rfl | hz
    · exact look_self f
    rcases List.mem_cons.mp hz with rfl | hz
    · exact look_f hf1
    · cases hz
  · have X₁ : K.In h₁ := X.keeps k
    have hyL : s.heap.objs.size ≠ y := Nat.ne_of_gt (Heap.lt_size hx)
    have ks : (callEnv (ksFn "__init__" qn (eArgs f p1 p2) (eBody f msg a1 a2 a3 a4 a5 a6 b1 b2 b3 b4) (eScope f) .none .none doc pm an (.ref cda) ct cc) s.heap.objs.size fI).kindOf "super" = some .globalImplicit := look_super hf3
    obtain ⟨oD, hD⟩ : ∃ oD, h₁.get? C = some oD ∧ ∃ cd : ClassData, oD.data = .cls cd := ⟨_, X₁ _ _ hC, _, rfl⟩
    obtain ⟨hD1, cdD, hD2⟩ := hD
    have IY : ∀ {h : Heap}, h.get? y = some (excO C t0) → InstAt h y (excO C t0) C none := fun e => ⟨e, rfl, rfl, trivial⟩
    have hyC : y ≠ C := fun z => by rw [z, hC] at hnx; cases hnx
    obtain ⟨pl, hpl⟩ := hS s.heap.objs.size
    refine ks_wpAt_execs_cons (ks_wpAt_Expr_any (ks_wpAt_MethodCall ?_ hpl) (by rfl) (by rfl))
    refine ks_wpAt_super_base ks (look_cls hf2) (by decide +kernel) rfl (X₁ _ _ ho) rfl rfl rfl (X₁ _ _ hcda) rfl hvs hfile T.top ?_
    refine ks_loadName_global rfl ks (loadGlobal_builtin (hg.keeps k) T.su (hbn.keeps k) (hbv _ (by decide +kernel)) ⟨by rfl, ?_⟩)
    refine wpAny_loadName_free rfl (look_cls hf2) rfl ⟨_, X₁ _ _ hcell, rfl⟩ ?_
    refine wpAny_loadName_local rfl (look_self f) hns (bl_self hf1 _ _) ?_
    refine ks_wpAny_isType_cls hD1 hD2 ⟨rfl, ?_⟩
    refine ks_wpAny_call_super hD1 hD2 (k _ _ hx) rfl (fun c e => nomatch e) (looks_mroIn X₁ T.mC) (fun h2 hso k2 => ?_)
    have X2 : K.In h2 := X₁.keeps k2
    refine kxs_getMethod kxs_ValueError hso (looks_opaque X2 T.ho) (l₀ := .ref C :: bm) ((looks_clsIn X2 hcl).andThen .now) rfl X2 ?_ ((IY (k2 _ _ (k _ _ hx))).type.andThen (looks_subIn X2 T.hB)) hyC (by decide +kernel) ?_
    · have e := T.si
      unfold ks_superIn at e
      rw [hcl] at e
      exact e
    have k3 : ∀ b o, h2.get? b = some o → (h2.push (kxs_mw "ValueError.__init__" y)).get? b = some o := fun b o e => Heap.get?_push_of_some _ e
    have hu : (h2.push (kxs_mw "ValueError.__init__" y)).get? h2.objs.size = some (kxs_mw "ValueError.__init__" y) := Heap.get?_push_at rfl rfl
    refine kxs_callWith (i := "ValueError.__init__") (x := y) (by rfl) (evalArgs_plain (Calls.spliced_cons (Calls.Constant_str (k := 0) (pos := a4) (Calls.spliced_nil ⟨hu, ?_⟩))))
    refine call_mw (X2.keeps k3 _ _ hC) (k3 _ _ (k2 _ _ (k _ _ hx))) hu (one_size _) fun h4 t1 k4 hy4 => ?_
    have X4 : K.In h4 := kept_but (X2.keeps k3) hnx k4
    have kk : ∀ b o, b ≠ y → h₁.get? b = some o → h4.get? b = some o := fun b o n e => k4 b o n (k3 b o (k2 b o e))
    have n4 : h4.Ns s.heap.objs.size fun z => [(("self" : Str), Value.ref y), (f, v)].reverse.lookup z := by
      obtain ⟨o, es, ep, e1, r⟩ := hns
      exact ⟨o, es, ep, kk _ _ hyL e1, r⟩
    have hfd : (f == ("__debug__" : Str)) = false := by simpa using hf4
    refine wpAt_of_wpAny (wpAny_execs_cons (plainObj_wpAny_Assign_Attribute ?_))
    refine wpAny_Name (wpAny_loadName_local rfl (look_f hf1) n4 (bl_f _ _) ?_) hfd
    refine wpAny_Name (wpAny_loadName_local rfl (look_self f) n4 (bl_self hf1 _ _) ?_) (by decide +kernel)
    refine set_plain X4 (ox := excO C t1) (od := none) ⟨hy4, rfl, rfl, trivial⟩ T.sa ?_
    refine exc_osa X4 hy4 hcl (show refsVE (.ref C :: bm) = true from hbm) rfl T.noN (fun h5 tk5 dx k5 dn dne hx5 hn5 => ?_)
    refine wpAny_execs_nil (hq h5 tk5 dx ⟨fun b o hb e => k5 b o hb (kk b o hb (k b o e)), ⟨_, hx5⟩, ?_, dne, hn5⟩)
    have z1 : s.heap.objs.size < h4.objs.size := n4.lt
    exact Nat.le_of_lt (Nat.lt_of_lt_of_le z1 dn)
/-- an error that was made: the object at e, its own dict at d -/
structure MadeE (h h' : Heap) (e C d : Addr) (f : Str) (v : Value) : Prop where
  keep : ∀ b o, h.get? b = some o → h'.get? b = some o
  new : h.objs.size ≤ e
  obj : ∃ t1 : Addr, h'.get? e = some { cls := .ref C, dict := some d, data := .fields #[.ref t1, .none, .none, .none, .bool false, .none] }
  dbig : h.objs.size ≤ d
  dne : d ≠ e
  ns : h'.Ns1 d (fun z => if z = f then some v else none)
theorem not_in {K : Frag} {h : Heap} {a : Addr} (X : K.In h) (ha : h.objs.size ≤ a) : K.lookup a = none := by
  cases e : K.lookup a with
  | none => rfl
  | some o => exact absurd (Nat.lt_of_lt_of_le (Heap.lt_size (X _ _ e)) ha) (Nat.lt_irrefl _)
theorem err_made (T : ErrTxt prog K mg x f C fI) {v : Value} (X : K.In s.heap) (hlim : s.heap.NoLimit) (hg : s.heap.Ns mainGlobals mg) (hb : ∃ mb, s.heap.Ns builtinsNs mb ∧ ∀ z : Str, z ≠ "__name__" → mb z = bootBuiltins z)
    (hroom : A.depth + 1 < recursionLimit) (hq : ∀ h' tk e d, MadeE s.heap h' e C d f v → R (.ok (.ret (.ref e))) { s with heap := h', toks := tk }) :
    codeAny (model prog w) A (.call (.ref C) ⟨[v], []⟩) R s := by
  obtain ⟨nm, q, N, bs, bm, sn, sub, ab, col, dd, k0, k1, k2, k3, k5, hC, hbm⟩ := T.cls
  obtain ⟨mb, hbn, hbv⟩ := hb
  obtain ⟨hp, g, dr, tk, os⟩ := s
  have k : ∀ b o, hp.get? b = some o → ((hp.push (kdv_tup [v])).push (excO C hp.objs.size)).get? b = some o := fun b o e => Heap.get?_push_of_some _ (Heap.get?_push_of_some _ e)
  have hget : ((hp.push (kdv_tup [v])).push (excO C hp.objs.size)).get? (hp.objs.size + 1) = some (excO C hp.objs.size) := by heap_get
  have hnx : K.lookup (hp.objs.size + 1) = none := not_in X (Nat.le_succ _)
  refine call_own F.excBase_ValueError (fun X => refsVE_contains X bm hbm) (X _ _ hC) (looks_findIn X T.iC) (fun self => bind_fn X self T.tC) (one_size v) ?_
  refine err_init (s := ⟨(hp.push (kdv_tup [v])).push (excO C hp.objs.size), g, dr, tk, os⟩) T (X.keeps k) (hlim.keeps k) (hg.keeps k) ⟨mb, hbn.keeps k, hbv⟩ hget hnx ?_ fun h' tk' dx ⟨k', ⟨t1, hx⟩, dn, dne, hns⟩ => ?_
  · show A.depth + 1 < recursionLimit
    exact hroom
  · have old : ∀ b o, hp.get? b = some o → h'.get? b = some o := fun b o e => k' b o (Nat.ne_of_lt (Nat.lt_succ_of_lt (Heap.lt_size e))) (k b o e)
    have z : hp.objs.size + 1 + 1 ≤ dx := by
      have q := dn
      rw [Heap.size_push, Heap.size_push] at q
      exact q
    exact ⟨rfl, hq h' tk' (hp.objs.size + 1) dx ⟨old, Nat.le_succ _, ⟨t1, hx⟩, Nat.le_trans (Nat.le_trans (Nat.le_succ _) (Nat.le_succ _)) z, dne, hns⟩⟩
end
end EK
namespace L2
open PySem PySem.Spec PyProof.Rows EK
theorem relO_one {f : Str} {v : V} {u : Value} (r : RelV v u) (g : Str) : RelO (List.lookup g [(f, v)]) (if g = f then some u else none) := relO_put (fs := []) (mA := fun _ => none) r (fun _ => True.intro) g
section
variable {X : Cx} {C fI : Addr} {x f : Str}
/-- x(e) as a value: a new error at a, its dict at d -/
def tErrV (C : Addr) (f : Str) (ta : TA) : TE := fun σ H Q => ta σ H fun vs H1 => ∃ v, vs = [v] ∧ ∀ a d, H1 a = none → H1 d = none → d ≠ a → Q (.ref a) (upd (upd H1 d (exd d [(f, v)])) a (exo a C (some d)))
theorem pe_errV {a : Expr} {ta : TA} {p pos : Pos} {k : Nat} (T : ErrTxt X.prog X.K X.mg x f C fI) (hr : Room k X.A) (ha : PA X [a] ta) (hg : Gl X x) (hd : (x == ("__debug__" : Str)) = false := by decide)
    (he : starEach (a :: []) X.env = (false, eval a X.env) :: starEach [] X.env := by rfl) (hpl : (backTo pos (starEach [] X.env)).any (·.1) = false := by rfl) :
    PE X (.Call (.Name x p) [a] [] pos) (tErrV C f ta) := by
  refine ⟨fun pins s σ H Q I h => ?_⟩
  refine wpAny_Call_Name_kw (ld_glob I hg T.gC ?_ hd)
  refine PySem.W.callWith_K (h₀ := X.base) I.ok.mod.kin T.kC (thn (ha.run pos pins s σ H _ I h) fun us s1 hh => ?_) he hpl
  obtain ⟨vs, H1, I1, r1, v, ev, q1⟩ := hh
  subst ev
  refine ⟨I1.kIn, ?_⟩
  cases r1 with
  | cons rv rn =>
    rename_i v' us'
    cases rn
    show wpAny _ _ (call (.ref C) [v']) _ _ _
    have hlim := I1.nolimit
    obtain ⟨hp, g, dr, tk, os⟩ := s1
    obtain ⟨mb, hb1, hb2⟩ := I1.mod.blt
    refine wpAny_call (err_made T I1.kIn hlim (I1.mod.glob.keeps I1.bk) ⟨mb, hb1.keeps I1.bk, hb2⟩ (by have := hr.dp; omega) fun h' tk' e d M => ?_)
    obtain ⟨t1, hoe⟩ := M.obj
    have nd : H1 d = none := I1.hok.fresh M.dbig
    have ne : H1 e = none := I1.hok.fresh M.new
    obtain ⟨G, g1, g2⟩ := restrict h' fun b => decide (b ≠ e)
    have gk : ∀ b, b ≠ e → G.get? b = h'.get? b := fun b hb => g1 b (decide_eq_true hb)
    have ge : G.get? e = none := g2 e (by simp)
    have old : ∀ b o, hp.get? b = some o → G.get? b = some o := fun b o q => (gk b (Nat.ne_of_lt (Nat.lt_of_lt_of_le (Heap.lt_size q) M.new))).trans (M.keep b o q)
    have gs : ∀ b o, G.get? b = some o → h'.get? b = some o := fun b o q => by
      by_cases hbe : b = e
      · rw [hbe, ge] at q
        cases q
      · exact (gk b hbe).symm.trans q
    have J : Inv X pins σ (upd H1 d (exd d [(f, v)])) ⟨G, g, dr, tk', os⟩ := I1.laid (t' := tk') old M.dbig (exd_ok (M.ns.at fun o q => (gk d M.dne).trans q) (relO_one rv))
    have hne : (upd H1 d (exd d [(f, v)])) e = none := by
      rw [upd_ne (Ne.symm M.dne)]
      exact ne
    exact ⟨.ref e, _, J.laidN (t' := tk') gs ge hne (exo_ok hoe), rfl, q1 e d ne nd M.dne⟩
/-- a field of an error, read -/
def tErrF (K : PySem.W.Frag) (f : Str) (te : TE) : TE := fun σ H Q => te σ H fun x H1 => ∃ (a C d : Addr) (fs : List (Str × V)) (v : V), x = .ref a ∧ H1 a = some (exo a C (some d)) ∧ H1 d = some (exd d fs) ∧ XfC K C ∧ PySem.W.findIn K (.ref C) f = some none ∧ fs.lookup f = some v ∧ Q v H1
theorem pe_errF {e : Expr} {te : TE} {pos : Pos} (he : PE X e te) (hb : attributeBase e f X.env (eval e X.env) = eval e X.env := by rfl) : PE X (.Attribute e f pos) (tErrF X.K f te) := by
  refine ⟨fun pins s σ H Q I h => ?_⟩
  refine attr_of hb (thn (he.run pins s σ H _ I h) fun u s1 hh => ?_)
  obtain ⟨y, H1, I1, ry, a, C, d, fs, v, ey, ea, ed, T, hno, l, q⟩ := hh
  subst ey
  obtain rfl : u = Value.ref a := ry
  obtain ⟨t1, ha⟩ := exo_at I1.hok ea
  obtain ⟨mA, hns, hr⟩ := exd_at I1.hok ed
  obtain ⟨od, ho, hl⟩ := lookIn_ns hns
  obtain ⟨u, hu, ru⟩ := RelO.some_of (v := v) (o := mA f) (by rw [← l]; exact hr f)
  have J : PySem.W.InstAt s1.heap a _ C (some od) := ⟨ha, rfl, rfl, ho⟩
  exact HandSPX.exc_get I1.kIn J T.ga T.gg T.exC (PySem.W.findObj_own T.hdC hno rfl (by rw [hl, hu])) (handed_of ru) ⟨v, H1, I1.tok _, ru, q⟩
end
end L2

set_option Elab.async false
set_option linter.all false
set_option maxRecDepth 100000
set_option maxHeartbeats 4000000
/-! EqKit: things that are told equal, whatever they hold; isinstance of errors. -/
namespace L2
open PySem PySem.Spec PyProof.Rows
/-- x and y compare equal, at most n deep: one thing, or lists, tuples of such -/
inductive Sm (K : PySem.W.Frag) (H : Hp) : Nat → V → V → Prop
  | rf {n : Nat} (x : V) (h : ∀ b, x ≠ .flt b) : Sm K H n x x
  | ls {n : Nat} {a b : Addr} {xs ys : List V} (h1 : SqL K H a xs) (h2 : SqL K H b ys) (hl : xs.length = ys.length) (h : ∀ (i : Nat) x y, xs[i]? = some x → ys[i]? = some y → Sm K H n x y) : Sm K H (n + 1) (.ref a) (.ref b)
  | tp {n : Nat} {a b : Addr} {xs ys : List V} (h1 : SqT K H a xs) (h2 : SqT K H b ys) (hl : xs.length = ys.length) (h : ∀ (i : Nat) x y, xs[i]? = some x → ys[i]? = some y → Sm K H n x y) : Sm K H (n + 1) (.ref a) (.ref b)
section
variable {X : Cx} {pins : List (Addr × Obj)} {σ : St} {H : Hp} {s : Shared}
theorem sm_items {xs ys : List V} {us vs : List Value} {A : Around} (rx : Vals xs us) (ry : Vals ys vs)
    (h : ∀ (i : Nat) x y, xs[i]? = some x → ys[i]? = some y → ∀ u v, RelV x u → RelV y v → SeqAt.EqAt A s u v true) :
    ∀ j (h1 : j < us.toArray.size) (h2 : j < vs.toArray.size), SeqAt.EqAt A s us.toArray[j] vs.toArray[j] true := by
  intro j h1 h2
  have l1 := rx.length
  have l2 := ry.length
  have j1 : j < xs.length := by rw [l1]; simpa using h1
  have j2 : j < ys.length := by rw [l2]; simpa using h2
  obtain ⟨u, e1, r1⟩ := rx.get (List.getElem?_eq_getElem j1)
  obtain ⟨v, e2, r2⟩ := ry.get (List.getElem?_eq_getElem j2)
  have f1 : us.toArray[j] = u := by
    have q : us[j]? = some (us[j]'(by simpa using h1)) := List.getElem?_eq_getElem _
    rw [e1] at q
    simpa using (Option.some.inj q).symm
  have f2 : vs.toArray[j] = v := by
    have q : vs[j]? = some (vs[j]'(by simpa using h2)) := List.getElem?_eq_getElem _
    rw [e2] at q
    simpa using (Option.some.inj q).symm
  rw [f1, f2]
  exact h j _ _ (List.getElem?_eq_getElem j1) (List.getElem?_eq_getElem j2) u v r1 r2
theorem all_true {n : Nat} : ((List.range n).all fun _ => true) = true := by
  induction n with
  | zero => rfl
  | succ n ih => simp
theorem sm_at (I : Inv X pins σ H s) : ∀ {n : Nat} {x y : V} {u v : Value} {A : Around}, Sm X.K H n x y → RelV x u → RelV y v → A.units + n < cLine → SeqAt.EqAt A s u v true := by
  intro n x y u v A h
  induction h generalizing u v A with
  | rf x hf =>
    intro r1 r2 _
    cases x with
    | non => cases r1; cases r2; exact .same _
    | bl b => cases r1; cases r2; exact .same _
    | int i =>
      obtain ⟨t, rfl⟩ := r1
      obtain ⟨t', rfl⟩ := r2
      have q := SeqAt.EqAt.int_int (A := A) (s := s) i t i t'
      rw [beq_self_eq_true] at q
      exact q
    | str z =>
      obtain ⟨t, rfl⟩ := r1
      obtain ⟨t', rfl⟩ := r2
      have q := SeqAt.EqAt.str_str (A := A) (s := s) z t z t'
      rw [beq_self_eq_true] at q
      exact q
    | byt b =>
      obtain ⟨t, rfl⟩ := (show ∃ t, u = Value.bytes b t from r1)
      obtain ⟨t', rfl⟩ := (show ∃ t, v = Value.bytes b t from r2)
      exact fun prog w E Q h => PySem.W.eqBool_bytes (by simpa using h)
    | flt b => exact absurd rfl (hf b)
    | ref a => cases r1; cases r2; exact .same _
    | ty n => cases r1; cases r2; exact .same _
  | @ls n a b xs ys h1 h2 hl _ ih =>
    intro r1 r2 hu
    cases r1; cases r2
    by_cases e : a = b
    · rw [e]; exact .same _
    · obtain ⟨us, ru, ⟨o, m, ho, hc, _, hd⟩, _⟩ := I.list h1
      obtain ⟨vs, rv, ⟨o', m', ho', hc', _, hd'⟩, _⟩ := I.list h2
      have hs : us.toArray.size = vs.toArray.size := by simp only [List.size_toArray]; rw [← ru.length, ← rv.length, hl]
      refine .of_refs e ?_
      have q := SeqAt.RcAt.lists (A := A) (s := s) (e := fun _ => true) ⟨o, ho, hc, m, hd⟩ ⟨o', ho', hc', m', hd'⟩ hs (by omega) (sm_items (A := A.in1) ru rv fun i x y e1 e2 u v s1 s2 => ih i x y e1 e2 s1 s2 (by show A.units + 1 + n < cLine; omega))
      rw [all_true] at q
      exact q
  | @tp n a b xs ys h1 h2 hl _ ih =>
    intro r1 r2 hu
    cases r1; cases r2
    by_cases e : a = b
    · rw [e]; exact .same _
    · obtain ⟨us, ru, ⟨o, ho, hc, m, hd⟩, _⟩ := I.tuple h1
      obtain ⟨vs, rv, ⟨o', ho', hc', m', hd'⟩, _⟩ := I.tuple h2
      have hs : us.toArray.size = vs.toArray.size := by simp only [List.size_toArray]; rw [← ru.length, ← rv.length, hl]
      refine .of_refs e ?_
      have q := SeqAt.RcAt.tuples (A := A) (s := s) (e := fun _ => true) ⟨o, ho, hc, m, hd⟩ ⟨o', ho', hc', m', hd'⟩ (by omega) (sm_items (A := A.in1) ru rv fun i x y e1 e2 u v s1 s2 => ih i x y e1 e2 s1 s2 (by show A.units + 1 + n < cLine; omega))
      rw [all_true, hs, beq_self_eq_true] at q
      exact q
/-- what may stand on both sides of a comparison that is told equal -/
inductive SmT (K : PySem.W.Frag) (H : Hp) : V → V → Prop
  | sc (x : V) (h : scal x x = true) : SmT K H x x
  | ls {a b : Addr} {xs ys : List V} (h1 : SqL K H a xs) (h2 : SqL K H b ys) (hl : xs.length = ys.length) (h : ∀ (i : Nat) x y, xs[i]? = some x → ys[i]? = some y → Sm K H 60 x y) : SmT K H (.ref a) (.ref b)
  | tp {a b : Addr} {xs ys : List V} (h1 : SqT K H a xs) (h2 : SqT K H b ys) (hl : xs.length = ys.length) (h : ∀ (i : Nat) x y, xs[i]? = some x → ys[i]? = some y → Sm K H 60 x y) : SmT K H (.ref a) (.ref b)
  | dk {a b : Addr} {kvs : List (Key × V)} (h1 : H a = some (.dK kvs)) (h2 : H b = some (.dK kvs)) (nd : (kvs.map (·.1)).Nodup) (fl : ∀ p ∈ kvs, flatB p.2 = true) : SmT K H (.ref a) (.ref b)
theorem op_neS (hu : X.A.units + 64 < cLine) : OpR X (compareOp .NotEq) (fun x y H Q => SmT X.K H x y ∧ Q (.bl false) H) := by
  intro pins s σ H x y v u Q I rx ry ⟨h, q⟩
  cases h with
  | sc x h => exact op_ne pins s σ H x x v u Q I rx ry ⟨h, by rw [decide_eq_true rfl]; exact q⟩
  | ls h1 h2 hl h =>
    cases rx; cases ry
    obtain ⟨us, ru, ⟨o, m, ho, hc, _, hd⟩, _⟩ := I.list h1
    obtain ⟨vs, rv, ⟨o', m', ho', hc', _, hd'⟩, _⟩ := I.list h2
    have hs : us.toArray.size = vs.toArray.size := by simp only [List.size_toArray]; rw [← ru.length, ← rv.length, hl]
    have z := SeqAt.RcNeAt.lists (A := X.A) (s := s) (e := fun _ => true) ⟨o, ho, hc, m, hd⟩ ⟨o', ho', hc', m', hd'⟩ hs (by omega) (sm_items (A := X.A.in1) ru rv fun i x y e1 e2 u v s1 s2 => sm_at I (h i x y e1 e2) s1 s2 (by show X.A.units + 1 + 60 < cLine; omega))
    rw [all_true] at z
    exact z X.prog X.w _ _ ⟨.bl false, H, I, rfl, q⟩
  | tp h1 h2 hl h =>
    cases rx; cases ry
    obtain ⟨us, ru, ⟨o, ho, hc, m, hd⟩, _⟩ := I.tuple h1
    obtain ⟨vs, rv, ⟨o', ho', hc', m', hd'⟩, _⟩ := I.tuple h2
    have hs : us.toArray.size = vs.toArray.size := by simp only [List.size_toArray]; rw [← ru.length, ← rv.length, hl]
    have z := SeqAt.RcNeAt.tuples (A := X.A) (s := s) (e := fun _ => true) ⟨o, ho, hc, m, hd⟩ ⟨o', ho', hc', m', hd'⟩ (by omega) (sm_items (A := X.A.in1) ru rv fun i x y e1 e2 u v s1 s2 => sm_at I (h i x y e1 e2) s1 s2 (by show X.A.units + 1 + 60 < cLine; omega))
    rw [all_true, hs, beq_self_eq_true] at z
    exact z X.prog X.w _ _ ⟨.bl false, H, I, rfl, q⟩
  | @dk a b kvs h1 h2 nd fl =>
    cases rx; cases ry
    obtain ⟨_, ya, va, ra, da⟩ := (show ObjOk X.prog X.w H s.heap a (.dK kvs) from I.hok a _ h1)
    obtain ⟨_, yb, vb, rb, db⟩ := (show ObjOk X.prog X.w H s.heap b (.dK kvs) from I.hok b _ h2)
    have hl : va.length = vb.length := ra.length.symm.trans rb.length
    exact PySem.W.keq_ne (knd := mixKind X.prog X.w) (r := true) ya yb da db (by omega) (fun _ => hits_all rb ra fun p hp => ⟨val_nodup nd p hp, fl p hp⟩) (fin_bl I q (by simp [hl]))
theorem op_eqS (hu : X.A.units + 64 < cLine) : OpR X (compareOp .Eq) (fun x y H Q => SmT X.K H x y ∧ Q (.bl true) H) := by
  intro pins s σ H x y v u Q I rx ry ⟨h, q⟩
  cases h with
  | sc x h => exact op_eq pins s σ H x x v u Q I rx ry ⟨h, by rw [decide_eq_true rfl]; exact q⟩
  | ls h1 h2 hl h =>
    cases rx; cases ry
    obtain ⟨us, ru, ⟨o, m, ho, hc, _, hd⟩, _⟩ := I.list h1
    obtain ⟨vs, rv, ⟨o', m', ho', hc', _, hd'⟩, _⟩ := I.list h2
    have hs : us.toArray.size = vs.toArray.size := by simp only [List.size_toArray]; rw [← ru.length, ← rv.length, hl]
    have z := SeqAt.RcAt.lists (A := X.A) (s := s) (e := fun _ => true) ⟨o, ho, hc, m, hd⟩ ⟨o', ho', hc', m', hd'⟩ hs (by omega) (sm_items (A := X.A.in1) ru rv fun i x y e1 e2 u v s1 s2 => sm_at I (h i x y e1 e2) s1 s2 (by show X.A.units + 1 + 60 < cLine; omega))
    rw [all_true] at z
    exact z X.prog X.w _ _ ⟨.bl true, H, I, rfl, q⟩
  | tp h1 h2 hl h =>
    cases rx; cases ry
    obtain ⟨us, ru, ⟨o, ho, hc, m, hd⟩, _⟩ := I.tuple h1
    obtain ⟨vs, rv, ⟨o', ho', hc', m', hd'⟩, _⟩ := I.tuple h2
    have hs : us.toArray.size = vs.toArray.size := by simp only [List.size_toArray]; rw [← ru.length, ← rv.length, hl]
    have z := SeqAt.RcAt.tuples (A := X.A) (s := s) (e := fun _ => true) ⟨o, ho, hc, m, hd⟩ ⟨o', ho', hc', m', hd'⟩ (by omega) (sm_items (A := X.A.in1) ru rv fun i x y e1 e2 u v s1 s2 => sm_at I (h i x y e1 e2) s1 s2 (by show X.A.units + 1 + 60 < cLine; omega))
    rw [all_true, hs, beq_self_eq_true] at z
    exact z X.prog X.w _ _ ⟨.bl true, H, I, rfl, q⟩
  | @dk a b kvs h1 h2 nd fl =>
    exact op_eq_dict (by omega) pins s σ H _ _ v u Q I rx ry ⟨a, b, kvs, rfl, rfl, h1, h2, nd, fl, q⟩
/-- isinstance(e, c), e an error that is held as a value -/
def rIsErr (K : PySem.W.Frag) : List V → Hp → VK → Prop := fun xs H Q => ∃ (a C : Addr) (d : Option Addr) (fs : List (Str × V)) (c : V) (u : Value) (b : Bool), xs = [.ref a, c] ∧ H a = some (exo a C d) ∧ (∀ dd, d = some dd → H dd = some (exd dd fs)) ∧ ExcC K C ∧ ClsV c u ∧ PySem.W.kitOne K (.ref C) u = some b ∧ Q (.bl b) H
theorem call_isErr : CallR X (.builtin "isinstance") (rIsErr X.K) := by
  intro pins s σ H xs us Q I r h
  obtain ⟨a, C, d, fs, c, u, b, rfl, ea, ed, T, k, e, q⟩ := h
  obtain ⟨u1, u2, rfl, r1, r2⟩ := vals2 r
  have e2 := k.eq r2
  subst e2
  cases r1
  obtain ⟨t1, ha⟩ := exo_at I.hok ea
  have hcl : (PySem.W.clsIn X.K C).isSome = true := by
    obtain ⟨cd, hc, _⟩ := PySem.W.any_some T.hd
    rw [hc]
    rfl
  cases d with
  | none => exact PySem.W.kia_one (PySem.W.kitx_exc (od := none) hcl T.hg T.hk T.hs T.ha T.hn T.ht T.hm) I.kIn (show PySem.W.InstAt s.heap a _ C none from ⟨ha, rfl, rfl, trivial⟩) e (fun z => nomatch z) fun tk => ⟨.bl b, H, I.tok tk, rfl, q⟩
  | some dd =>
    obtain ⟨mA, ⟨od, es, ep, ho, hr⟩, _⟩ := exd_at I.hok (ed dd rfl)
    exact PySem.W.kia_one (PySem.W.kitx_exc (od := some od) hcl T.hg T.hk T.hs T.ha T.hn T.ht T.hm) I.kIn (show PySem.W.InstAt s.heap a _ C (some od) from ⟨ha, rfl, rfl, ho⟩) e (fun z => nomatch z) fun tk => ⟨.bl b, H, I.tok tk, rfl, q⟩
end
end L2

set_option Elab.async false
set_option linter.all false
set_option maxRecDepth 100000
set_option maxHeartbeats 4000000
namespace T83
open PySem L2
def top (i : Nat) : Stmt := PySem.Challenge.pw_turnindex_k83_refused_alike_texts.main.body.getD i (.Pass ⟨0, 0, 0, 0⟩)
abbrev sWell : Stmt := top 34
abbrev sDraw : Stmt := top 35
abbrev sOne : Stmt := top 36
/-- a well of draws: its own digits left, its number, how often it was asked -/
def WellAt (H : Hp) (a : Addr) (n : Int) : Prop := ∃ w0 w1 w2 : Int, H a = some (.lst [.int w0, .int w1, .int w2]) ∧ 0 ≤ w1 ∧ w1 < 2147483647 ∧ 0 ≤ w2 ∧ w2 ≤ n
def KeepB (a : Addr) (H H' : Hp) : Prop := ∀ b o, H b = some o → b ≠ a → H' b = some o
def spWell : Sp := fun vs H Q _ => ∃ c : Int, vs = [.int c] ∧ ∀ p H', H p = none → WellAt H' p 0 → Same H H' → Q (.ref p) H'
def spDraw : Sp := fun vs H Q _ => ∃ (a : Addr) (m n : Int), vs = [.ref a, .int m] ∧ WellAt H a n ∧ n ≤ 1000000 ∧ 0 < m ∧ m < 1073741824 ∧ ∀ (d : Int) H', 0 ≤ d → d < m → WellAt H' a (n + 1) → KeepB a H H' → Q (.int d) H'
structure TxtD (K : PySem.W.Frag) (mg : Str → Option Value) : Prop where
  int : mg "int" = none
  len : mg "len" = none
section
variable {P : Program} {w : World} {K : PySem.W.Frag} {mg : Str → Option Value} {base : Heap}
theorem scWell : FnScope ["_law_cell"] ["_law_cell"] (defScope sWell) := ⟨rfl, rfl, rfl, by decide +kernel, rfl, by decide +kernel, by decide +kernel⟩
theorem ok_well {f : Addr} {fd : FuncData} (F : Fun K "_law_well" "_law_well" sWell f fd) (T : TxtD K mg) : FnOk P w K mg base CX0 1 f fd ["_law_cell"] spWell := by
  refine F.ok scWell (fun vs H Q E h => ?_) (fun cdv A outer s H vs Q E hr h => ?_)
  · obtain ⟨c, rfl, _⟩ := h
    rfl
  · obtain ⟨c, rfl, k⟩ := h
    refine ⟨_, pss_one (ps_ret (pe_lst (pa_cons (pe_op op_mul (pv 0) (pe_callTy call_int1 (by rfl) T.int (by decide +kernel) (pa_cons (pe_cmpR op_ge (pv 0) (pe_op op_pow pe_int pe_int) (nomark _)) pa_nil)))
      (pa_cons (pe_op op_mod (pe_callTy call_int1 (by rfl) T.int (by decide +kernel) (pa_cons (pv 0) pa_nil)) pe_int) (pa_cons pe_int pa_nil))))), ?_⟩
    refine ⟨_, rfl, _, rfl, _, _, rfl, rfl, ⟨by decide, by decide, by decide⟩, _, _, rfl, rfl, .inr ⟨_, rfl, _, _, rfl, rfl, .inr ?_, ?_⟩⟩
    · by_cases h : (10 : Int) ^ (18 : Int).toNat ≤ c
      · rw [decide_eq_true h]; decide
      · rw [decide_eq_false h]; decide
    refine ⟨_, rfl, .inl ⟨_, rfl, _, _, rfl, rfl, (by show (0 : Int) < 2147483629; decide), (by show 3 ≤ sizeLine; decide), fun p hp => ?_⟩⟩
    refine k p _ hp ⟨_, _, _, upd_same, Int.emod_nonneg _ (by decide), Int.lt_trans (Int.emod_lt_of_pos _ (by decide)) (by decide : (2147483629 : Int) < 2147483647), by decide, by decide⟩ fun b o e => ?_
    rw [upd_ne (ne_of_none e hp)]
    exact e
theorem scDraw : FnScope ["_law_well_here", "_law_many", "_law_digit", "_law_number"] ["_law_well_here", "_law_many"] (defScope sDraw) := ⟨rfl, rfl, rfl, by decide +kernel, rfl, by decide +kernel, by decide +kernel⟩
theorem ok_draw {f : Addr} {fd : FuncData} (F : Fun K "_law_draw" "_law_draw" sDraw f fd) (T : TxtD K mg) : FnOk P w K mg base CX0 1 f fd ["_law_well_here", "_law_many"] spDraw := by
  refine F.ok scDraw (fun vs H Q E h => ?_) (fun cdv A outer s H vs Q E hr h => ?_)
  · obtain ⟨a, m, n, rfl, _⟩ := h
    rfl
  · obtain ⟨a, m, n, rfl, ⟨w0, w1, w2, ha, h1, h2, h3, h4⟩, hn, hm, hm2, k⟩ := h
    have nd := scDraw.nd
    refine ⟨_, (pss_cons (ps_if (pt_cmpR op_gt (pe_ix ix_list (pv 0) pe_int (fun _ _ => rfl)) pe_int (nomark _)) (pss_cons (ps_set (i := 2) nd rfl (Or.inl rfl) (pe_op op_mod (pe_callTy call_int1 (by rfl) T.int (by decide +kernel) (pa_cons (pe_ix ix_list (pv 0) pe_int (fun _ _ => rfl)) pa_nil)) (pv 1)))
      (pss_cons (ps_asg (pe_op op_fdiv (pe_ix ix_list (pv 0) pe_int (fun _ _ => rfl)) (pv 1)) (pg_sub (pv 0) pe_int set_list))
      (pss_one (ps_ret (pv 2))))) pss_nil)
      (pss_cons (ps_asg (pe_op op_add (pe_ix ix_list (pv 0) pe_int (fun _ _ => rfl)) pe_int) (pg_sub (pv 0) pe_int set_list))
      (pss_cons (ps_set (i := 3) nd rfl (Or.inl rfl) (pe_op op_mod (pe_callTy call_int1 (by rfl) T.int (by decide +kernel) (pa_cons (pe_op op_pow (pe_op op_add (pe_op op_add (pe_ix ix_list (pv 0) pe_int (fun _ _ => rfl)) (pe_op op_mul pe_int (pe_ix ix_list (pv 0) pe_int (fun _ _ => rfl)))) pe_int) pe_int) pa_nil)) pe_int))
      (pss_cons (ps_set (i := 3) nd rfl (Or.inl rfl) (pe_op op_mod (pe_callTy call_int1 (by rfl) T.int (by decide +kernel) (pa_cons (pe_op op_add (pe_op op_mul (pv 3) (pe_op op_add (pe_op op_fdiv (pv 3) pe_int) pe_int)) (pe_ix ix_list (pv 0) pe_int (fun _ _ => rfl))) pa_nil)) pe_int))
      (pss_one (ps_ret (pe_op op_mod (pe_callTy call_int1 (by rfl) T.int (by decide +kernel) (pa_cons (pe_op op_fdiv (pe_op op_mod (pe_callTy call_int1 (by rfl) T.int (by decide +kernel) (pa_cons (pe_op op_mul (pv 3) (pe_op op_add (pe_op op_fdiv (pv 3) pe_int) pe_int)) pa_nil)) pe_int) pe_int) pa_nil)) (pv 1)))))))), ?_⟩
    refine ⟨_, rfl, a, _, 0, _, rfl, rfl, .of ha, rfl, _, _, rfl, rfl, _, rfl, ?_⟩
    refine ite2 (fun h0 => ?_) (fun h0 => ?_)
    · refine ⟨_, rfl, a, _, 0, _, rfl, rfl, .of ha, rfl, .inl ⟨_, rfl, _, rfl, _, _, rfl, rfl, hm, ?_⟩⟩
      refine ⟨_, rfl, a, _, 0, _, rfl, rfl, .of ha, rfl, _, rfl, _, _, rfl, rfl, ⟨hm, hm2⟩, _, rfl, a, _, 0, 0, rfl, rfl, ha, rfl, _, rfl, ?_⟩
      refine k _ _ (Int.emod_nonneg _ (by omega)) (Int.emod_lt_of_pos _ hm) ⟨_, _, _, upd_same, h1, h2, h3, by omega⟩ fun b o e n => ?_
      rw [upd_ne n]
      exact e
    · refine ⟨_, rfl, a, _, 2, _, rfl, rfl, .of ha, rfl, _, _, rfl, rfl, _, rfl, a, _, 2, 2, rfl, rfl, ha, rfl, ?_⟩
      obtain ⟨H1, e1, ha1, kb⟩ : ∃ H1, upd H a (.lst ([V.int w0, V.int w1, V.int w2].set 2 (V.int (w2 + 1)))) = H1 ∧ H1 a = some (.lst [.int w0, .int w1, .int (w2 + 1)]) ∧ KeepB a H H1 := ⟨_, rfl, upd_same, fun b o e n => by rw [upd_ne n]; exact e⟩
      simp only [e1]
      refine ⟨_, rfl, a, _, 1, _, rfl, rfl, .of ha1, rfl, _, rfl, a, _, 2, _, rfl, rfl, .of ha1, rfl, _, _, rfl, rfl, .inl ⟨by decide, by decide⟩, ?_⟩
      refine ⟨_, _, rfl, rfl, _, _, rfl, rfl, _, _, rfl, rfl, ⟨by decide, by decide, by omega⟩, .inl ⟨_, rfl, _, _, rfl, rfl, (by show (0 : Int) < 2147483647; decide), ?_⟩⟩
      have g0 := Int.emod_nonneg ((w1 + 6991 * (w2 + 1) + 3) ^ (5 : Int).toNat) (show (2147483647 : Int) ≠ 0 by decide)
      have g1 := Int.emod_lt_of_pos ((w1 + 6991 * (w2 + 1) + 3) ^ (5 : Int).toNat) (show (0 : Int) < 2147483647 by decide)
      obtain ⟨r, hr0⟩ : ∃ r, (w1 + 6991 * (w2 + 1) + 3) ^ (5 : Int).toNat % 2147483647 = r := ⟨_, rfl⟩
      show tSeq _ _ _ (List.set _ 3 (some (V.int ((w1 + 6991 * (w2 + 1) + 3) ^ (5 : Int).toNat % 2147483647)))) H1
      rw [hr0] at g0 g1 ⊢
      refine ⟨_, rfl, _, rfl, _, _, rfl, rfl, ⟨by decide, by decide⟩, _, _, rfl, rfl, _, _, rfl, rfl, .inl ⟨by omega, by omega⟩, ?_⟩
      refine ⟨_, rfl, a, _, 2, _, rfl, rfl, .of ha1, rfl, _, _, rfl, rfl, .inl ⟨_, rfl, _, _, rfl, rfl, (by show (0 : Int) < 2147483587; decide), ?_⟩⟩
      have g2 := Int.emod_nonneg (r * (r / 1013 + 48611) + (w2 + 1)) (show (2147483587 : Int) ≠ 0 by decide)
      have g3 := Int.emod_lt_of_pos (r * (r / 1013 + 48611) + (w2 + 1)) (show (0 : Int) < 2147483587 by decide)
      refine ⟨_, rfl, _, rfl, _, _, rfl, rfl, ⟨by decide, by decide⟩, _, _, rfl, rfl, _, _, rfl, rfl, .inl ⟨by omega, by omega⟩, .inl ⟨_, rfl, _, _, rfl, rfl, (by show (0 : Int) < 2147483563; decide), _, _, rfl, rfl, ⟨by decide, by decide⟩, .inl ⟨_, rfl, _, rfl, _, _, rfl, rfl, hm, ?_⟩⟩⟩
      exact k _ _ (Int.emod_nonneg _ (by omega)) (Int.emod_lt_of_pos _ hm) ⟨_, _, _, ha1, h1, h2, by omega, by omega⟩ kb

/-- one of a list of things -/
def spOne : Sp := fun vs H Q _ => ∃ (a l : Addr) (n : Int) (xs : List V), vs = [.ref a, .ref l] ∧ WellAt H a n ∧ n ≤ 1000000 ∧ H l = some (.lst xs) ∧ l ≠ a ∧ 0 < xs.length ∧ xs.length ≤ 1000 ∧ ∀ (x : V) H', x ∈ xs → WellAt H' a (n + 1) → KeepB a H H' → Q x H'
theorem scOne : FnScope ["_law_well_here", "_law_some"] ["_law_well_here", "_law_some"] (defScope sOne) := ⟨rfl, rfl, rfl, by decide +kernel, rfl, by decide +kernel, by decide +kernel⟩
theorem ok_one {f fD : Addr} {fd fdD : FuncData} (F : Fun K "_law_one" "_law_one" sOne f fd) (T : TxtD K mg) (FD : Fun K "_law_draw" "_law_draw" sDraw fD fdD) (gD : mg "_law_draw" = some (.ref fD)) (bD : Binds K fdD ["_law_well_here", "_law_many"] []) :
    FnOk P w K mg base CX0 2 f fd ["_law_well_here", "_law_some"] spOne := by
  have GD : FnOk P w K mg base CX0 1 fD fdD ["_law_well_here", "_law_many"] spDraw := ok_draw FD T
  refine F.ok scOne (fun vs H Q E h => ?_) (fun cdv A outer s H vs Q E hr h => ?_)
  · obtain ⟨a, l, n, xs, rfl, _⟩ := h
    rfl
  · obtain ⟨a, l, n, xs, rfl, hw, hn, hl, hla, h1, h2, k⟩ := h
    refine ⟨_, pss_one (ps_ret (pe_ix ix_list (pv 1) (pe_call GD hr rfl gD FD.kp bD .nil pass0 (pa_cons (pv 0) (pa_cons (pe_callB call_len_seq (by rfl) T.len PySem.boot_len (pa_cons (pv 1) pa_nil)) pa_nil))) (fun _ _ => rfl))), ?_⟩
    refine ⟨_, rfl, _, rfl, _, rfl, l, xs, rfl, .inl (.of hl), a, _, n, rfl, hw, hn, by omega, by omega, fun d H' hd hd2 hw' hk => ?_⟩
    obtain ⟨j, rfl⟩ : ∃ j : Nat, d = (j : Int) := ⟨d.toNat, by omega⟩
    have hj : j < xs.length := by omega
    refine ⟨l, xs, _, xs[j], rfl, rfl, .of (hk l _ hl hla), atI_nat (List.getElem?_eq_getElem hj), ?_⟩
    exact k _ _ (List.getElem_mem hj) hw' hk
end
end T83

set_option Elab.async false
set_option linter.all false
set_option maxRecDepth 100000
set_option maxHeartbeats 4000000
namespace L2
open PySem EK
theorem alloc {H : Hp} {p : Addr} {o : HO} (hp : H p = none) : ∃ H1, upd H p o = H1 ∧ Same H H1 ∧ H1 p = some o :=
  ⟨_, rfl, fun b u e => by rw [upd_ne (ne_of_none e hp)]; exact e, upd_same⟩
/-- an error of the class at C stands at a, its one value v -/
def ErrAt (H : Hp) (a d C : Addr) (f : Str) (v : V) : Prop := H a = some (exo a C (some d)) ∧ H d = some (exd d [(f, v)])
theorem ErrAt.keep {H H' : Hp} {a d C : Addr} {f : Str} {v : V} (e : ErrAt H a d C f v) (s : Same H H') : ErrAt H' a d C f v := ⟨s _ _ e.1, s _ _ e.2⟩
theorem alloc_err {H : Hp} {a d C : Addr} {f : Str} {v : V} (ha : H a = none) (hd : H d = none) (hne : d ≠ a) : ∃ H1, upd (upd H d (exd d [(f, v)])) a (exo a C (some d)) = H1 ∧ Same H H1 ∧ ErrAt H1 a d C f v :=
  ⟨_, rfl, fun b u e => by rw [upd_ne (ne_of_none e ha), upd_ne (ne_of_none e hd)]; exact e, upd_same, by rw [upd_ne hne, upd_same]⟩
theorem look1 (f : Str) (v : V) : List.lookup f [(f, v)] = some v := by rw [lookup_put, if_pos rfl]
theorem _root_.EK.ErrTxt.xf {P : Program} {K : PySem.W.Frag} {mg : Str → Option Value} {x f : Str} {C fI : Addr} (T : ErrTxt P K mg x f C fI) : XfC K C := ⟨T.ga, T.gg, T.exC, T.hdC⟩
end L2

set_option Elab.async false
set_option linter.all false
set_option maxRecDepth 100000
set_option maxHeartbeats 4000000
/-! RaiseKit: an error raised; several clauses, with and without names; what a lambda handed over says. -/
namespace L2
open PySem PySem.Spec PyProof.Rows EK
section
variable {X : Cx} {C fI : Addr} {x f : Str}
/-- x(e), made to be raised: its own dict, new, holds the value -/
def tErrMk (C : Addr) (f : Str) (ta : TA) : St → Hp → XK → Prop := fun σ H Q => ta σ H fun vs H1 => ∃ v, vs = [v] ∧ ∀ d, H1 d = none → Q (.ref C) (some d) (upd H1 d (.xd [(f, v)]))
theorem pmk_err {a : Expr} {ta : TA} {p pos : Pos} {k : Nat} (T : ErrTxt X.prog X.K X.mg x f C fI) (hr : Room k X.A) (ha : PA X [a] ta) (hg : Gl X x) (hd : (x == ("__debug__" : Str)) = false := by decide)
    (he : starEach (a :: []) X.env = (false, eval a X.env) :: starEach [] X.env := by rfl) (hpl : (backTo pos (starEach [] X.env)).any (·.1) = false := by rfl) :
    PMk X (.Call (.Name x p) [a] [] pos) (tErrMk C f ta) := by
  intro pins s σ H Q I h
  refine wpAny_Call_Name_kw (ld_glob I hg T.gC ?_ hd)
  refine PySem.W.callWith_K (h₀ := X.base) I.ok.mod.kin T.kC (thn (ha.run pos pins s σ H _ I h) fun us s1 hh => ?_) he hpl
  obtain ⟨vs, H1, I1, r1, v, ev, q1⟩ := hh
  subst ev
  refine ⟨I1.kIn, ?_⟩
  cases r1 with
  | cons rv rn =>
    rename_i v' us'
    cases rn
    show wpAny _ _ (call (.ref C) [v']) _ _ _
    have hlim := I1.nolimit
    obtain ⟨hp, g, dr, tk, os⟩ := s1
    obtain ⟨mb, hb1, hb2⟩ := I1.mod.blt
    refine wpAny_call (err_made T I1.kIn hlim (I1.mod.glob.keeps I1.bk) ⟨mb, hb1.keeps I1.bk, hb2⟩ (by have := hr.dp; omega) fun h' tk' e d M => ?_)
    show MkP X pins σ Q (.ref e) ⟨h', g, dr, tk', os⟩
    obtain ⟨t1, hoe⟩ := M.obj
    obtain ⟨G, g1, g2⟩ := restrict h' fun b => decide (b ≠ e)
    have gk : ∀ b, b ≠ e → G.get? b = h'.get? b := fun b hb => g1 b (decide_eq_true hb)
    have ge : G.get? e = none := g2 e (by simp)
    have gs : ∀ b o, G.get? b = some o → h'.get? b = some o := fun b o q => by
      by_cases hbe : b = e
      · rw [hbe, ge] at q
        cases q
      · exact (gk b hbe).symm.trans q
    have old : ∀ b o, hp.get? b = some o → G.get? b = some o := fun b o q => (gk b (Nat.ne_of_lt (Nat.lt_of_lt_of_le (Heap.lt_size q) M.new))).trans (M.keep b o q)
    have ob : ObjOk X.prog X.w (upd H1 d (.xd [(f, v)])) G d (.xd [(f, v)]) := ⟨_, M.ns.at (fun o q => (gk d M.dne).trans q), relO_one rv⟩
    have J : Inv X pins σ (upd H1 d (.xd [(f, v)])) ⟨G, g, dr, tk', os⟩ := I1.laid (t' := tk') old M.dbig ob
    have ne : (upd H1 d (.xd [(f, v)])) e = none := by
      rw [upd_ne (Ne.symm M.dne)]
      exact I1.hok.fresh M.new
    exact ⟨e, _, _, ⟨G, g, dr, tk', os⟩, _, .ref C, some d, rfl, J, gs, ge, hoe, ⟨rfl, rfl⟩, rfl, rfl, ne, rfl, I1.bare, raises_own T.exC T.tyC, q1 d (I1.hok.fresh M.dbig)⟩
theorem ps_raiseErr {a : Expr} {ta : TA} {W : WX} {p pos pos2 : Pos} {k : Nat} (hc : X.calm = true) (T : ErrTxt X.prog X.K X.mg x f C fI) (hr : Room k X.A) (tk : Takes X W) (ha : PA X [a] ta) (hg : Gl X x) (hd : (x == ("__debug__" : Str)) = false := by decide)
    (he : starEach (a :: []) X.env = (false, eval a X.env) :: starEach [] X.env := by rfl) (hpl : (backTo pos (starEach [] X.env)).any (·.1) = false := by rfl) :
    PS X (.Raise (some (.Call (.Name x p) [a] [] pos)) none pos2) (fun _ σ H => tErrMk C f ta σ H fun cls d H' => W cls d σ H') := ps_raise hc tk (pmk_err T hr ha hg hd he hpl)
end
/-! ### try with several clauses -/
structure Cl where
  c : Value
  i : Option Nat
  ts : Addr → Value → Option Addr → TS
def Ends.drop (D : Ends) (i : Nat) : Ends := { nx := fun s h => D.nx (s.set i none) h, rt := D.rt, bk := fun s h => D.bk (s.set i none) h, ct := fun s h => D.ct (s.set i none) h }
def Cl.run (k : Cl) (a : Addr) (cls : Value) (d : Option Addr) : TS := fun D σ H => match k.i with
  | none => k.ts a cls d D σ H
  | some i => i < σ.length → k.ts a cls d (D.drop i) (σ.set i (some (.ref a))) H
def wCl (K : PySem.W.Frag) (Wout : WX) (D : Ends) : List Cl → WX
  | [] => Wout
  | k :: r => fun cls d σ H => ∃ b, PySem.W.exmOne K cls k.c = some b ∧ (b = true → ∀ a, H a = none → k.run a cls d D σ H) ∧ (b = false → wCl K Wout D r cls d σ H)
inductive ClOk (X : Cx) : List ExceptHandler → List Cl → Prop
  | nil : ClOk X [] []
  | un {x : Str} {c : Value} {ts : Addr → Value → Option Addr → TS} {b1 : Stmt} {suite : List Stmt} {np pos' : Pos} {hds : List ExceptHandler} {l : List Cl} (hc : Names X x c)
      (hsu : ∀ (a : Addr) (oe : Obj) (cls : Value) (d : Option Addr) (pn : List (Addr × Obj)), Zc cls d oe → (∃ vs, oe.data = .fields vs) → PSs (X.suite a ((a, oe) :: pn)) (b1 :: suite) (ts a cls d)) (r : ClOk X hds l) :
      ClOk X (.ExceptHandler (some (.Name x np)) none (b1 :: suite) pos' :: hds) (⟨c, none, ts⟩ :: l)
  | as {x n : Str} {i : Nat} {c : Value} {ts : Addr → Value → Option Addr → TS} {b1 : Stmt} {suite : List Stmt} {np pos' : Pos} {hds : List ExceptHandler} {l : List Cl} (hi : X.N[i]? = some n) (hln : X.env.kindOf n = some .local) (hc : Names X x c)
      (hsu : ∀ (a : Addr) (oe : Obj) (cls : Value) (d : Option Addr) (pn : List (Addr × Obj)), Zc cls d oe → (∃ vs, oe.data = .fields vs) → PSs (X.suite a ((a, oe) :: pn)) (b1 :: suite) (ts a cls d)) (r : ClOk X hds l) :
      ClOk X (.ExceptHandler (some (.Name x np)) (some n) (b1 :: suite) pos' :: hds) (⟨c, some i, ts⟩ :: l)
section
variable {X : Cx} {body : List Stmt} {hd0 : ExceptHandler} {hds : List ExceptHandler} {l : List Cl} {pos : Pos} {tb : WX → TS} {Wout : WX} {pins : List (Addr × Obj)} {s : Shared} {D : Ends}
/-- behind a suite: its end, the name gone -/
theorem sp_unsuite {a : Addr} {q : Addr × Obj} {f : Flow} (ok : X.Ok) (h : SP (X.suite a (q :: (X.pn ++ pins))) [] D f s) : SP X pins D f s := by
  cases f with
  | next =>
    obtain ⟨t, h1, J, z⟩ := h
    exact ⟨t, h1, J.unsuite ok, z⟩
  | brk =>
    obtain ⟨t, h1, J, z⟩ := h
    exact ⟨t, h1, J.unsuite ok, z⟩
  | cont =>
    obtain ⟨t, h1, J, z⟩ := h
    exact ⟨t, h1, J.unsuite ok, z⟩
  | ret u =>
    obtain ⟨v, t, h1, J, r, z⟩ := h
    exact ⟨v, t, h1, J.unsuite ok, r, z⟩
theorem sp_gone {n : Str} {i : Nat} {f : Flow} {pos' : Pos} (hN : X.N.Nodup) (hi : X.N[i]? = some n) (hln : X.env.kindOf n = some .local) (h : SP X pins (D.drop i) f s) :
    wpAny (model X.prog X.w) X.A (do bindName X.env n .none; unbindBehindTheSuite X.env n pos') (fun _ s7 => SP X pins D f s7) X.xe s := by
  cases f with
  | next =>
    obtain ⟨t, h1, J, z⟩ := h
    exact gone_ok J hN hi hln fun s7 J7 => ⟨_, _, J7, z⟩
  | brk =>
    obtain ⟨t, h1, J, z⟩ := h
    exact gone_ok J hN hi hln fun s7 J7 => ⟨_, _, J7, z⟩
  | cont =>
    obtain ⟨t, h1, J, z⟩ := h
    exact gone_ok J hN hi hln fun s7 J7 => ⟨_, _, J7, z⟩
  | ret u =>
    obtain ⟨v, t, h1, J, r, z⟩ := h
    exact gone_ok J hN hi hln fun s7 J7 => ⟨_, _, _, J7, r, z⟩
theorem names_ld {a : Addr} {oe : Obj} {pn : List (Addr × Obj)} {σ : St} {H : Hp} {x : Str} {c : Value} {np : Pos} (S : Inv (X.suite a ((a, oe) :: pn)) [] σ H s) (hc : Names X x c) {Q : Value → Shared → Prop} {E : Value → Shared → Prop} (q : Q c s) :
    wpAny (model X.prog X.w) (X.A.mark (some (.ref a))) (eval (.Name x np) X.env) Q E s := by
  obtain ⟨h1, h2, h3⟩ := hc
  rcases h3 with h3 | ⟨h3, h4, h5⟩
  · exact ld_glob (X := X.suite a ((a, oe) :: pn)) S h1 h3 q h2
  · exact ld_blt (X := X.suite a ((a, oe) :: pn)) S h1 h3 h4 q h5 h2
theorem ps_tryC (hs : X.stack = X.env :: X.outer) (hf : X.env.frame = some X.env.locals) (hN : X.N.Nodup) (tk : Takes X Wout)
    (hb : ∀ (W : WX) (pn : List (Addr × Obj)) (xe : Value → Shared → Prop), Takes (X.tr pn xe) W → PassesOwn (model X.prog X.w) X.A X.env xe → PSs (X.tr pn xe) body (tb W))
    (hh : ClOk X (hd0 :: hds) l) : PS X (.Try body (hd0 :: hds) [] [] pos) (fun D σ H => tb (wCl X.K Wout D l) D σ H) := by
  refine ⟨fun pins s σ H D I h => ?_⟩
  have ok := I.ok
  have hfr : X.A.frames = some (X.env :: X.outer) := ok.frames.trans (congrArg some hs)
  refine wpAny_Try_except (wpAny_mono ((hb (wCl X.K Wout D l) (X.pn ++ pins) _ (fun u s' xx => ?_) PassesOwn.looking).run [] s σ H D (I.toTry _) h) (fun fl s1 hsp => ?_) fun e s1 he => he)
  · -- an exception has come
    obtain ⟨a, B, sI, pins', σ', H', cls, d, rfl, J0, nb, up, sky, na, os, ag, w⟩ := xx
    have J : Inv X pins σ' H' sI := J0.ofTry ok
    rw [hs] at sky
    show wpAny (model X.prog X.w) X.A (noteFrame (.ref a) X.env) _ _ _
    refine Sky.land Zc.steady hfr hf sky fun h3 fl3 up3 => ?_
    have J3 : Inv X pins σ' H' { s' with heap := h3 } := J.landed nb fl3.1 (up.trans up3) os ag
    obtain ⟨oe3, vs3, he3, hz3, hd3⟩ := fl3.there
    have ff := fl3.2.2.1
    have away : ∀ b ∈ frs (X.env :: X.outer), a ≠ b := fun b hm z => by
      obtain ⟨_, o', e', hnf⟩ := ff.mem hm
      rw [← z, he3] at e'
      cases e'
      exact hnf _ hd3
    have nL : a ≠ X.env.locals := away _ (List.mem_filterMap.mpr ⟨X.env, List.mem_cons_self, hf⟩)
    have nF : a ∉ X.fs := fun hm => by
      obtain ⟨e, he, q⟩ := List.mem_filterMap.mp hm
      exact away a (List.mem_filterMap.mpr ⟨e, List.mem_cons_of_mem _ he, q⟩) rfl
    have S3 := J3.suite he3 hd3 na nL nF
    have LT : PySem.W.Looks (model X.prog X.w) h3 (typeOf (.ref a)) cls := fun A Q E s k q => wpAny_typeOf_ref (k _ _ he3) (by rw [hz3.1]; exact q)
    have test : ∀ {x : Str} {c : Value} {np : Pos}, Names X x c → ∀ {Q : Value → Shared → Prop} {E : Value → Shared → Prop}, Q c { s' with heap := h3 } → wpAny (model X.prog X.w) (X.A.mark (some (.ref a))) (eval (.Name x np) X.env) Q E { s' with heap := h3 } := fun hc => names_ld S3 hc
    have go : ∀ {hs2 : List ExceptHandler} {l2 : List Cl}, ClOk X hs2 l2 → wCl X.K Wout D l2 cls d σ' H' →
        wpAny (model X.prog X.w) X.A (handleBy (.ref a) X.env hs2) (SP X pins D) X.xe { s' with heap := h3 } := by
      intro hs2 l2 hk
      induction hk with
      | nil =>
        intro w
        refine wpAny_handleBy_nil ?_
        obtain ⟨_, _, _, oe, vs, T, oT, ts', he, hz, hd, h1, hr⟩ := id fl3
        unfold PySem.passOn
        refine wpAny_bind (wpAny_field he hd h1 ?_)
        rw [if_neg (show ¬ ((Value.ref T == Value.none) = true) from by simp)]
        have fin : wpAny (model X.prog X.w) X.A (setFlight (.ref a) X.env.frame) (fun _ s4 => wpAny (model X.prog X.w) X.A (throw (.ref a) : Sem Flow) (SP X pins D) X.xe s4) X.xe { s' with heap := h3 } := by
          rw [hf]
          exact HandSPX.setFlight_upZ fl3 fun h4 hh4 up4 => wpAny_throw (tk _ _ ⟨a, B, sI, pins, σ', H', cls, d, rfl, J, nb, (up.trans up3).trans up4, .inr (.inr (by rw [hs]; exact hh4)), na, os, ag, w⟩)
        first
          | exact wpAny_bind (wpAny_pure (wpAny_bind fin))
          | exact wpAny_bind fin
      | @un x c ts b1 suite np pos' hds2 l2 hc hsu r ih =>
        intro ⟨b, hb1, hyes, hno⟩
        refine wpAny_handleBy_cons (codeAny_handlers_test (test hc ((PySem.W.exm_one (M := model X.prog X.w) J3.kIn LT hb1).here ?_))) (by intro q; cases q)
        cases b with
        | false => exact ih (hno rfl)
        | true =>
          refine codeAny_handlers_suite (HandSPX.lands_againZ fl3 fun h4 fl4 up4 => ?_)
          have J4 : Inv X pins σ' H' { s' with heap := h4 } := J.landed nb fl4.1 ((up.trans up3).trans up4) os ag
          obtain ⟨oe4, vs4, he4, hz4, hd4⟩ := fl4.there
          exact wpAny_mono ((hsu a oe4 cls d (X.pn ++ pins) hz4 ⟨_, hd4⟩).run [] _ _ H' _ (J4.suite he4 hd4 na nL nF) (hyes rfl a na)) (fun f s6 hsp => sp_unsuite ok hsp) (fun _ _ z => False.elim z)
      | @as x n i c ts b1 suite np pos' hds2 l2 hi hln hc hsu r ih =>
        intro ⟨b, hb1, hyes, hno⟩
        refine wpAny_handleBy_cons (codeAny_handlers_test (test hc ((PySem.W.exm_one (M := model X.prog X.w) J3.kIn LT hb1).here ?_))) (by intro q; cases q)
        cases b with
        | false => exact ih (hno rfl)
        | true =>
          refine codeAny_handlers_suite_as (HandSPX.lands_againZ fl3 fun h4 fl4 up4 => ?_)
          have J4 : Inv X pins σ' H' { s' with heap := h4 } := J.landed nb fl4.1 ((up.trans up3).trans up4) os ag
          obtain ⟨oe4, vs4, he4, hz4, hd4⟩ := fl4.there
          refine store_ok (X := X.suite a ((a, oe4) :: (X.pn ++ pins))) (v := .ref a) (J4.suite he4 hd4 na nL nF) hN hi (.inl hln) rfl (fun s5 S5 => ?_) (.inr hln)
          have hil : i < σ'.length := by rw [J.len]; exact (List.getElem?_eq_some_iff.mp hi).1
          exact wpAny_mono ((hsu a oe4 cls d (X.pn ++ pins) hz4 ⟨_, hd4⟩).run [] s5 _ H' _ S5 (hyes rfl a na hil)) (fun f s6 hsp => sp_gone hN hi hln (sp_unsuite ok hsp)) (fun _ _ z => False.elim z)
    exact go hh w
  · cases fl with
    | next =>
      obtain ⟨t, h1, J', q⟩ := hsp
      exact wpAny_execs_nil ⟨t, h1, J'.ofTry ok, q⟩
    | brk =>
      obtain ⟨t, h1, J', q⟩ := hsp
      exact ⟨t, h1, J'.ofTry ok, q⟩
    | cont =>
      obtain ⟨t, h1, J', q⟩ := hsp
      exact ⟨t, h1, J'.ofTry ok, q⟩
    | ret u =>
      obtain ⟨v, t, h1, J', r, q⟩ := hsp
      exact ⟨v, t, h1, J'.ofTry ok, r, q⟩
end
end L2

set_option Elab.async false
set_option linter.all false
set_option maxRecDepth 100000
set_option maxHeartbeats 4000000
/-! SaidKit: what a lambda handed over tells, or which of two errors it raises, as a pair. -/
namespace L2
open PySem PySem.Spec PyProof.Rows EK LamX
/-- an error of cls with its dict d: of the class at C, its one value told as (m, value) -/
def errTold (C : Addr) (f m : Str) (Q : VK) : XK := fun cls d H => cls = .ref C ∧ ∃ (dd : Addr) (v : V), d = some dd ∧ H dd = some (.xd [(f, v)]) ∧ ∀ p, H p = none → Q (.ref p) (upd H p (.tup [.str m, v]))
def wSaid (K : PySem.W.Frag) (C1 C2 : Addr) (f1 f2 m1 m2 : Str) (Q : VK) : XK := fun cls d H => ∃ b1, PySem.W.exmOne K cls (.ref C1) = some b1 ∧ (b1 = true → errTold C1 f1 m1 Q cls d H) ∧
  (b1 = false → ∃ b2, PySem.W.exmOne K cls (.ref C2) = some b2 ∧ (b2 = true → errTold C2 f2 m2 Q cls d H) ∧ (b2 = false → False))
def TSaid (K : PySem.W.Frag) (C1 C2 : Addr) (f1 f2 m1 m2 : Str) : (XK → Hp → VK → Prop) → Hp → VK → Prop := fun tl H Q =>
  tl (wSaid K C1 C2 f1 f2 m1 m2 Q) H fun v H1 => [V.str "told", v].length ≤ sizeLine ∧ ∀ p, H1 p = none → Q (.ref p) (upd H1 p (.tup [.str "told", v]))
theorem said_gives {X : Cx} {Ng : List Str} {x a e1 e2 n1 n2 q f1 f2 m1 m2 : Str} {sg : Scope} {g C1 C2 : Addr} {cdg : Value} {j0 j1 j2 : Nat} {p1 p2 p3 p4 p5 p6 p7 p8 a1 a2 a3 a4 a5 a6 a7 b1 b2 b3 b4 b5 b6 b7 c1 c2 : Pos} {k0 k1 k2 : Nat} {mz : Value}
    (hN : Ng.Nodup) (hn1 : Ng[1]? = some n1) (hl1 : sg.names.lookup n1 = some .local) (hn2 : Ng[1]? = some n2)
    (ge1 : sg.names.lookup e1 = some .globalImplicit) (hm1 : X.mg e1 = some (.ref C1)) (de1 : (e1 == ("__debug__" : Str)) = false)
    (ge2 : sg.names.lookup e2 = some .globalImplicit) (hm2 : X.mg e2 = some (.ref C2)) (de2 : (e2 == ("__debug__" : Str)) = false)
    (T1 : XfC X.K C1) (T2 : XfC X.K C2) (no1 : PySem.W.findIn X.K (.ref C1) f1 = some none) (no2 : PySem.W.findIn X.K (.ref C2) f2 = some none) (dn : (n1 == ("__debug__" : Str)) = false) (cn : (n1 == ("__classdict__" : Str)) = false) (sk : sg.kind = .function)
    (h0 : ∀ f : Addr, (L2.start Ng [V.ref f])[0]? = some (some (V.ref f))) (hz1 : ∀ f : Addr, (L2.start Ng [V.ref f])[1]? = some none) :
    GivesTo X Ng x sg g cdg [.Try [.Return (some (.Tuple [.Constant (.str "told") j0 p1, .Call (.Name a p2) [] [] p3] k0 p4)) p5]
      [.ExceptHandler (some (.Name e1 a1)) (some n1) [.Return (some (.Tuple [.Constant (.str m1) j1 a2, .Attribute (.Name n1 a3) f1 a4] k1 a5)) a6] a7,
       .ExceptHandler (some (.Name e2 b1)) (some n2) [.Return (some (.Tuple [.Constant (.str m2) j2 b2, .Attribute (.Name n2 b3) f2 b4] k2 b5)) b6] b7] [] [] p8] a q (TSaid X.K C1 C2 f1 f2 m1 m2) := by
  obtain rfl : n1 = n2 := Option.some.inj (hn1.symm.trans hn2)
  intro f c' s H Q tl act hc h
  have hlen : 1 < (L2.start Ng [V.ref f]).length := by
    have z := hz1 f
    exact (List.getElem?_eq_some_iff.mp z).1
  have gl1 : Gl (cxOf C8.CX0 X.prog X.w X.K X.mg X.base Ng x sg g cdg X.A X.stack s H C8.E0).nox e1 := ge1
  have gl2 : Gl (cxOf C8.CX0 X.prog X.w X.K X.mg X.base Ng x sg g cdg X.A X.stack s H C8.E0).nox e2 := ge2
  refine ⟨_, pss_one (ps_tryC (X := (cxOf C8.CX0 X.prog X.w X.K X.mg X.base Ng x sg g cdg X.A X.stack s H C8.E0).nox)
      (tb := fun W D σ H => ∃ Ech : XK, (∀ cls d σ' H', Ech cls d H' → W cls d σ' H') ∧ σ[0]? = some (some (.ref f)) ∧ H c' = some (CodeO c' q) ∧ tl Ech H (fun v H1 => [V.str "told", v].length ≤ sizeLine ∧ ∀ p, H1 p = none → D.rt (.ref p) (upd H1 p (.tup [.str "told", v]))))
      (l := [⟨.ref C1, some 1, fun a cls d => tRet (tTup (tCons (tC (.str m1)) (tCons (tXf a cls d C1 f1 (tVar 1)) tNil)))⟩, ⟨.ref C2, some 1, fun a cls d => tRet (tTup (tCons (tC (.str m2)) (tCons (tXf a cls d C2 f2 (tVar 1)) tNil)))⟩])
      rfl rfl hN takes0 (fun W pn xe tk _ => ?_)
      (ClOk.as hn1 (by show Env.kindOf _ n1 = some NameKind.local; exact hl1) ⟨gl1, de1, .inl hm1⟩ (fun a oe cls d pn hz hf => pss_one (ps_ret (pe_tup (pa_cons pe_str (pa_cons (pe_xf T1 no1 hz hf (pe_var (i := 1) hn1 (Or.inl hl1) dn cn)) pa_nil)))))
        (ClOk.as hn1 (by show Env.kindOf _ n1 = some NameKind.local; exact hl1) ⟨gl2, de2, .inl hm2⟩ (fun a oe cls d pn hz hf => pss_one (ps_ret (pe_tup (pa_cons pe_str (pa_cons (pe_xf T2 no2 hz hf (pe_var (i := 1) hn1 (Or.inl hl1) dn cn)) pa_nil))))) .nil))), ?_⟩
  · refine ⟨fun pins s' σ H' D I h' => ?_⟩
    obtain ⟨Ech, hW, h1, h2, h3⟩ := h'
    have hp := act W pn xe Ech p2 p3 tk hW
    have hq : PSs ((cxOf C8.CX0 X.prog X.w X.K X.mg X.base Ng x sg g cdg X.A X.stack s H C8.E0).tr pn xe) [.Return (some (.Tuple [.Constant (.str "told") j0 p1, .Call (.Name a p2) [] [] p3] k0 p4)) p5] _ := pss_one (ps_ret (pe_tup (pa_cons pe_str (pa_cons hp pa_nil))))
    exact hq.run pins s' σ H' D I ⟨h1, h2, h3⟩
  · have hset : ∀ (σ : L2.St) (y : V), 1 < σ.length → (σ.set 1 (some y))[1]? = some (some y) := fun σ y h => by rw [List.getElem?_set_self h]
    have two : ∀ x y : V, [x, y].length ≤ sizeLine := fun x y => by show 2 ≤ sizeLine; decide
    refine ⟨wSaid X.K C1 C2 f1 f2 m1 m2 Q, fun cls d σ' H' ⟨b1, e1, y1, z1⟩ => ⟨b1, e1, fun hb a ha hl => ?_, fun hb => ?_⟩, h0 f, hc, h⟩
    · obtain ⟨ec, dd, v, ed, hd, q⟩ := y1 hb
      exact ⟨_, hset _ _ hl, rfl, ec, dd, _, v, ed, hd, look1 _ _, two _ _, q⟩
    · obtain ⟨b2, e2, y2, z2⟩ := z1 hb
      refine ⟨b2, e2, fun hb2 a ha hl => ?_, fun hb2 => z2 hb2⟩
      obtain ⟨ec, dd, v, ed, hd, q⟩ := y2 hb2
      exact ⟨_, hset _ _ hl, rfl, ec, dd, _, v, ed, hd, look1 _ _, two _ _, q⟩
end L2

set_option Elab.async false
set_option linter.all false
set_option maxRecDepth 100000
set_option maxHeartbeats 4000000
/-! SayKit: isinstance of the error that a suite holds; a call of what a slot holds, one of several defs; a said: try: a() / except .. / return word. -/
namespace L2
open PySem PySem.Spec PyProof.Rows EK LamX
def rIsX (K : PySem.W.Frag) (a : Addr) (cls : Value) (d : Option Addr) : List V → Hp → VK → Prop := fun xs H Q => ∃ (C dd : Addr) (fs : List (Str × V)) (c : V) (u : Value) (b : Bool), xs = [.ref a, c] ∧ cls = .ref C ∧ d = some dd ∧ H dd = some (.xd fs) ∧ ExcC K C ∧ ClsV c u ∧ PySem.W.kitOne K (.ref C) u = some b ∧ Q (.bl b) H
theorem call_isX {X : Cx} {a : Addr} {oe : Obj} {cls : Value} {d : Option Addr} {pn : List (Addr × Obj)} (hz : Zc cls d oe) (hf : ∃ vs, oe.data = .fields vs) : CallR (X.suite a ((a, oe) :: pn)) (.builtin "isinstance") (rIsX X.K a cls d) := by
  intro pins s σ H xs us Q I r h
  obtain ⟨C, dd, fs, c, u, b, rfl, rfl, rfl, ed, T, k, e, q⟩ := h
  obtain ⟨u1, u2, rfl, r1, r2⟩ := vals2 r
  have e2 := k.eq r2
  subst e2
  cases r1
  obtain ⟨ha, _⟩ := I.pin (a, oe) (List.mem_append_left _ List.mem_cons_self)
  obtain ⟨vs, hd⟩ := hf
  have hcl : (PySem.W.clsIn X.K C).isSome = true := by
    obtain ⟨cd, hc, _⟩ := PySem.W.any_some T.hd
    rw [hc]
    rfl
  have hx : ObjOk X.prog X.w H s.heap dd (.xd fs) := I.hok dd _ ed
  obtain ⟨mA, ⟨od, es, ep, ho, hr⟩, _⟩ := hx
  have J : PySem.W.InstAt s.heap a oe C (some od) := ⟨ha, hz.1, by unfold PySem.W.notCls; rw [hd] <;> rfl, by rw [hz.2]; exact ho⟩
  exact PySem.W.kia_one (PySem.W.kitx_exc (od := some od) hcl T.hg T.hk T.hs T.ha T.hn T.ht T.hm) I.kIn J e (fun z => nomatch z) fun tk => ⟨.bl b, H, I.tok tk, rfl, q⟩
/-- x(..), x a slot that holds one of several defs of one promise -/
def tCallF (i : Nat) (fs : List Addr) (sp : Sp) (E : XK) (t : TA) : TE := fun σ H Q => ∃ f ∈ fs, σ[i]? = some (some (.ref f)) ∧ t σ H fun vs H1 => sp vs H1 Q E
section
variable {X : Cx} {CX : CXT} {k i : Nat} {sp : Sp} {E : XK} {x : Str} {p pos : Pos} {e : Expr} {es : List Expr} {t : TA}
theorem pe_callF {fs : List Addr} (F : ∀ f ∈ fs, ∃ (fd : FuncData) (ps : List Str), FnOk X.prog X.w X.K X.mg X.base CX k f fd ps sp ∧ PySem.W.keepIn X.K (.ref f) = true ∧ Binds X.K fd ps []) (hr : Room k X.A) (hN : X.N[i]? = some x) (hv : Vis X.env.scope x) (hx : Passes CX X E) (ha : PA X (e :: es) t)
    (hdb : (x == ("__debug__" : Str)) = false := by decide) (hcd : (x == ("__classdict__" : Str)) = false := by decide)
    (he : starEach (e :: es) X.env = (false, eval e X.env) :: starEach es X.env := by rfl) (hpl : (backTo pos (starEach es X.env)).any (·.1) = false := by rfl) : PE X (.Call (.Name x p) (e :: es) [] pos) (tCallF i fs sp E t) := by
  refine ⟨fun pins s σ H Q I h => ?_⟩
  obtain ⟨f, hf, hs, ht⟩ := h
  obtain ⟨fd, ps, G, hk, hb⟩ := F f hf
  refine (pe_callL (i := i) (f := f) (sp := sp) (dvs := []) (E := E) G hr hN hv hk hb .nil hx ha hdb hcd he hpl).run pins s σ H Q I ⟨hs, ?_⟩
  have e0 : (fun (vs : List V) (H1 : Hp) => sp (vs ++ []) H1 Q E) = fun vs H1 => sp vs H1 Q E := by
    funext vs H1
    rw [List.append_nil]
  show t σ H (fun vs H1 => sp (vs ++ []) H1 Q E)
  rw [e0]
  exact ht
end
theorem ite_yes {b : Bool} {P R : Prop} (h : b = true) (p : P) : if b = true then P else R := by rw [if_pos h]; exact p
/-- an error of the class at C, its one value told as [m, value] -/
def errL (C : Addr) (f m : Str) (Q : VK) : XK := fun cls d H => cls = .ref C ∧ ∃ (dd : Addr) (v : V), d = some dd ∧ H dd = some (.xd [(f, v)]) ∧ ∀ p, H p = none → Q (.ref p) (upd H p (.lst [.str m, v]))
/-- the clause: what it makes of the error it catches -/
def ClGives (X : Cx) (C : Addr) (suite : List Stmt) (R : VK → XK) : Prop := ∃ ts : Addr → Value → Option Addr → TS,
  (∀ (a : Addr) (oe : Obj) (cls : Value) (d : Option Addr) (pn : List (Addr × Obj)), Zc cls d oe → (∃ vs, oe.data = .fields vs) → PSs (X.suite a ((a, oe) :: pn)) suite (ts a cls d)) ∧
  ∀ (a : Addr) (cls : Value) (d : Option Addr) (D : Ends) (σ : St) (H : Hp), 2 < σ.length → H a = none → R D.rt cls d H → ts a cls d (D.drop 1) (σ.set 1 (some (.ref a))) H
end L2

set_option Elab.async false
set_option linter.all false
set_option maxRecDepth 100000
set_option maxHeartbeats 4000000
/-! ValKit: d.values(), sum and list of it; math.comb. -/
namespace L2
open PySem PySem.Spec PyProof.Rows
section
variable {X : Cx}
abbrev vwO (p d : Addr) : HO := viewO "dict_values" p d
def rVals : V → List V → Hp → VK → Prop := fun x xs H Q => ∃ (a : Addr) (kvs : List (Key × V)), x = .ref a ∧ xs = [] ∧ H a = some (.dK kvs) ∧ ∀ p, H p = none → Q (.ref p) (upd H p (vwO p a))
theorem mt_values : MtR X "dict.values" rVals := by
  intro pins s σ H x xs v us Q I rx rxs h
  obtain ⟨a, kvs, rfl, rfl, ha, q⟩ := h
  cases rx
  cases rxs
  obtain ⟨_, hsys, vs, rel, dof⟩ := dk_of I.hok ha
  refine call_meetsIn F.slot_dict_values dof.typeIs F.entry_dict_values (F.args_dict_values_1 _) (meets_dict_values (mixKind X.prog X.w) a hsys) ⟨⟨vs, dof⟩, ?_⟩
  exact ⟨.ref s.heap.objs.size, upd H s.heap.objs.size (vwO s.heap.objs.size a), I.laid (t' := s.toks) (fun b u e => Heap.get?_push_of_some _ e) (Nat.le_refl _) (viewO_ok (Heap.get?_push_size _ rfl)), rfl, q _ (I.hok.fresh (Nat.le_refl _))⟩
theorem preSum_ints (ns : List Int) : ∀ j, preSum (fun i => ns.getD i 0) j = (ns.take j).sum := by
  intro j
  induction j with
  | zero => simp [preSum]
  | succ j ih =>
    rw [preSum, ih]
    by_cases h : j < ns.length
    · rw [List.getD_eq_getElem?_getD, List.getElem?_eq_getElem h, List.take_succ_eq_append_getElem h, List.sum_append]
      simp only [Option.getD_some, List.sum_cons, List.sum_nil, Int.add_zero]
    · rw [List.take_of_length_le (by omega), List.take_of_length_le (by omega), List.getD_eq_getElem?_getD, List.getElem?_eq_none (by omega)]
      simp
def rSumV : List V → Hp → VK → Prop := fun xs H Q => ∃ (p a : Addr) (kvs : List (Key × V)) (ns : List Int), xs = [.ref p] ∧ H p = some (vwO p a) ∧ H a = some (.dK kvs) ∧ kvs.map (·.2) = ns.map V.int ∧ Q (.int ns.sum) H
theorem cr_sumV (hc : X.calm = true) : CallR X (.builtin "sum") rSumV := by
  intro pins s σ H xs us Q I r h
  obtain ⟨p, a, kvs, ns, rfl, hp, ha, hv, q⟩ := h
  rw [Vals.ref1 r]
  have vw : s.heap.get? p = some (DSub.viewOb "dict_values" a) := (show ObjOk X.prog X.w H s.heap p (vwO p a) from I.hok p _ hp).1
  obtain ⟨_, hsys, vs, rel, dof⟩ := dk_of I.hok ha
  obtain ⟨ep, dat⟩ := dof.dictAt
  obtain ⟨ob, es, ho, ex, hdat, hko, hpr, hnd⟩ := id dat
  have hlt : a < s.heap.objs.size := Heap.lt_size ho
  have hlv : vs.length = ns.length := by
    have e1 := congrArg List.length hv
    rw [List.length_map, List.length_map] at e1
    rw [← e1]
    exact (KV.length rel).symm
  have hval : ∀ (i : Nat) (v : Value), (∃ k, vs[i]? = some (k, v)) → ∃ t, v = Value.int (ns.getD i 0) t := fun i v ⟨k, hk⟩ => by
    obtain ⟨x, h1, h2⟩ := KV.at' rel hk
    have e1 : (kvs.map (·.2))[i]? = some x := by rw [List.getElem?_map, h1] <;> rfl
    rw [hv, List.getElem?_map] at e1
    obtain ⟨j, hj, e2⟩ := Option.map_eq_some_iff.mp e1
    subst e2
    obtain ⟨t, e3⟩ := h2
    refine ⟨t, ?_⟩
    rw [e3, List.getD_eq_getElem?_getD, hj] <;> rfl
  refine call_sum_walkAnyS (wpAny_pyIter_values (v := p) (d := a) ⟨_, vw, rfl, rfl⟩ dat ?_)
  refine ⟨_, _, _, _, _, _, _, fun i => ns.getD i 0, rfl, (Walks.dictValues (knd := mixKind X.prog X.w) (A := X.A.in1) (I.ok.hd hc) s.heap.objs.size a (Nat.ne_of_lt hlt) vs ep).toS,
    ⟨⟨_, Heap.get?_push_size _ rfl, rfl, rfl⟩, dat.keep fun b u e => Heap.get?_push_of_some _ e⟩, fun b hb => ?_, hval, fun s' t' hm => ?_⟩
  · rcases List.mem_cons.mp hb with e | hb
    · rw [e, Heap.size_push]
      exact Nat.lt_succ_self _
    · rw [List.mem_singleton.mp hb, Heap.size_push]
      exact Nat.lt_succ_of_lt hlt
  · have hk : ∀ b o, s.heap.get? b = some o → s'.heap.get? b = some o := fun b o e =>
      hm.heap b o (fun hI => absurd (Heap.lt_size e) (by rw [List.mem_singleton.mp hI]; exact Nat.lt_irrefl _)) (Heap.get?_push_of_some _ e)
    rw [Moved.eq_with hm]
    refine ⟨.int _, H, I.kept (t' := s'.toks) hk, ⟨t', rfl⟩, ?_⟩
    rw [preSum_ints, hlv, List.take_length]
    exact q
def rListV : List V → Hp → VK → Prop := fun xs H Q => ∃ (p a : Addr) (kvs : List (Key × V)), xs = [.ref p] ∧ H p = some (vwO p a) ∧ H a = some (.dK kvs) ∧ ∀ r, H r = none → Q (.ref r) (upd H r (.lst (kvs.map (·.2))))
theorem vals_at {us : List Value} {xs : List V} (hl : us.length = xs.length) (h : ∀ (i : Nat) (u : Value), us[i]? = some u → ∃ x : V, xs[i]? = some x ∧ RelV x u) : Vals xs us := by
  induction xs generalizing us with
  | nil =>
    cases us with
    | nil => exact .nil
    | cons u us => cases hl
  | cons x xs ih =>
    cases us with
    | nil => cases hl
    | cons u us =>
      obtain ⟨y, e, r⟩ := h 0 u rfl
      cases e
      exact .cons r (ih (by simpa using hl) fun i u hu => by simpa using h (i + 1) u (by simpa using hu))
theorem cr_listV (hc : X.calm = true) : CallR X (.type "list") rListV := by
  intro pins s σ H xs us Q I r h
  obtain ⟨p, a, kvs, rfl, hp, ha, q⟩ := h
  rw [Vals.ref1 r]
  have vw : s.heap.get? p = some (DSub.viewOb "dict_values" a) := (show ObjOk X.prog X.w H s.heap p (vwO p a) from I.hok p _ hp).1
  obtain ⟨hz, hsys, vs, rel, dof⟩ := dk_of I.hok ha
  obtain ⟨ep, dat⟩ := dof.dictAt
  have hl : kvs.length = vs.length := KV.length rel
  refine PySem.W.kdl_call (PySem.W.kdl_values (knd := mixKind X.prog X.w) (kvs := vs) (ep := ep)) (I.ok.hd hc) ⟨⟨_, vw, rfl, rfl⟩, dat⟩ (by omega) fun h' tk acc c hk hS hacc => ?_
  refine ⟨.ref s.heap.objs.size, _, I.laid (t' := tk) (a := s.heap.objs.size) (o := .lst (kvs.map (·.2))) hk (Nat.le_refl _) ⟨by rw [List.length_map]; exact hz, acc.toList, c, vals_at (by rw [Array.length_toList, hacc.1, List.length_map, hl]) fun i u hu => ?_, by rw [Array.toArray_toList]; exact hS⟩, rfl, q _ (I.hok.fresh (Nat.le_refl _))⟩
  obtain ⟨k, e⟩ := hacc.2 i u (by rw [← Array.getElem?_toList]; exact hu)
  obtain ⟨x, h1, h2⟩ := KV.at' rel e
  exact ⟨x, by rw [List.getElem?_map, h1] <;> rfl, h2⟩
def rComb : List V → Hp → VK → Prop := fun vs H Q => ∃ a b : Int, vs = [.int a, .int b] ∧ 0 ≤ a ∧ 0 ≤ b ∧ a < 2 ^ 64 ∧ b ≤ 9000 ∧ Q (.int (PySem.W.mcComb a b)) H
theorem cr_comb : CallR X (.builtin "math.comb") rComb := by
  intro pins s σ H vs us Q I r h
  obtain ⟨a, b, rfl, ha, hb, ha2, hk, q⟩ := h
  obtain ⟨t, u, rfl⟩ := Vals.int2 r
  exact PySem.W.mc_comb ha hb ha2 (.inl hk) fun _ => ⟨.int _, H, I.tok _, ⟨_, rfl⟩, q⟩
end
end L2

set_option Elab.async false
set_option linter.all false
set_option maxRecDepth 100000
set_option maxHeartbeats 4000000
namespace T83
open PySem L2 EK
abbrev sIsText : Stmt := top 8
abbrev sIsNum : Stmt := top 9
abbrev sCkText : Stmt := top 10
abbrev sCkN : Stmt := top 11
/-- a thing whose kind is known -/
inductive Pl (H : Hp) : V → Prop
  | non : Pl H .non
  | int (i : Int) : Pl H (.int i)
  | str (z : Str) : Pl H (.str z)
  | bl (b : Bool) : Pl H (.bl b)
  | tup {a : Addr} {xs : List V} (e : H a = some (.tup xs)) : Pl H (.ref a)
  | lst {a : Addr} {xs : List V} (e : H a = some (.lst xs)) : Pl H (.ref a)
  | dct {a : Addr} {kvs : List (Key × V)} (e : H a = some (.dK kvs)) : Pl H (.ref a)
theorem Pl.keep {H H' : Hp} {x : V} (h : Pl H x) (s : Same H H') : Pl H' x := by
  cases h with
  | non => exact .non
  | int i => exact .int i
  | str z => exact .str z
  | bl b => exact .bl b
  | tup e => exact .tup (s _ _ e)
  | lst e => exact .lst (s _ _ e)
  | dct e => exact .dct (s _ _ e)
theorem Pl.keepB {wl : Addr} {H H' : Hp} {x : V} (h : Pl H x) (s : KeepB wl H H') (n : x ≠ .ref wl) : Pl H' x := by
  cases h with
  | non => exact .non
  | int i => exact .int i
  | str z => exact .str z
  | bl b => exact .bl b
  | @tup a xs e => exact .tup (s _ _ e fun z => n (by rw [z]))
  | @lst a xs e => exact .lst (s _ _ e fun z => n (by rw [z]))
  | @dct a xs e => exact .dct (s _ _ e fun z => n (by rw [z]))
def isStrV : V → Bool
  | .str _ => true
  | _ => false
def isIntV : V → Bool
  | .int _ => true
  | .bl _ => true
  | _ => false
def isBlV : V → Bool
  | .bl _ => true
  | _ => false
theorem Pl.isStr {K : PySem.W.Frag} {H : Hp} {x : V} (h : Pl H x) : ∃ t, TyX K H x t ∧ PySem.W.kitOne K t (.type "str") = some (isStrV x) := by
  cases h with
  | non => exact ⟨_, .base .non, kit_ty (r := false) (by decide +kernel)⟩
  | int i => exact ⟨_, .base (.int i), kit_ty (r := false) (by decide +kernel)⟩
  | str z => exact ⟨_, .base (.str z), kit_ty (r := true) (by decide +kernel)⟩
  | bl b => exact ⟨_, .base (.bl b), kit_ty (r := false) (by decide +kernel)⟩
  | tup e => exact ⟨_, .base (.tup e), kit_ty (r := false) (by decide +kernel)⟩
  | lst e => exact ⟨_, .base (.lst e), kit_ty (r := false) (by decide +kernel)⟩
  | dct e => exact ⟨_, .base (.dK e), kit_ty (r := false) (by decide +kernel)⟩
theorem Pl.isInt {K : PySem.W.Frag} {H : Hp} {x : V} (h : Pl H x) : ∃ t, TyX K H x t ∧ PySem.W.kitOne K t (.type "int") = some (isIntV x) := by
  cases h with
  | non => exact ⟨_, .base .non, kit_ty (r := false) (by decide +kernel)⟩
  | int i => exact ⟨_, .base (.int i), kit_ty (r := true) (by decide +kernel)⟩
  | str z => exact ⟨_, .base (.str z), kit_ty (r := false) (by decide +kernel)⟩
  | bl b => exact ⟨_, .base (.bl b), kit_ty (r := true) (by decide +kernel)⟩
  | tup e => exact ⟨_, .base (.tup e), kit_ty (r := false) (by decide +kernel)⟩
  | lst e => exact ⟨_, .base (.lst e), kit_ty (r := false) (by decide +kernel)⟩
  | dct e => exact ⟨_, .base (.dK e), kit_ty (r := false) (by decide +kernel)⟩
theorem Pl.isBl {K : PySem.W.Frag} {H : Hp} {x : V} (h : Pl H x) : ∃ t, TyX K H x t ∧ PySem.W.kitOne K t (.type "bool") = some (isBlV x) := by
  cases h with
  | non => exact ⟨_, .base .non, kit_ty (r := false) (by decide +kernel)⟩
  | int i => exact ⟨_, .base (.int i), kit_ty (r := false) (by decide +kernel)⟩
  | str z => exact ⟨_, .base (.str z), kit_ty (r := false) (by decide +kernel)⟩
  | bl b => exact ⟨_, .base (.bl b), kit_ty (r := true) (by decide +kernel)⟩
  | tup e => exact ⟨_, .base (.tup e), kit_ty (r := false) (by decide +kernel)⟩
  | lst e => exact ⟨_, .base (.lst e), kit_ty (r := false) (by decide +kernel)⟩
  | dct e => exact ⟨_, .base (.dK e), kit_ty (r := false) (by decide +kernel)⟩
def numB (x : V) (m : Int) : Bool := match x with
  | .int i => decide (m ≤ i)
  | _ => false
def letS : Str := "abcdefghijklmnopqrstuvwxyz"
def isT (z : Str) : Bool := z.cps.toList.all fun c => decide (c ∈ letS.cps.toList)
structure TxtC (K : PySem.W.Frag) (mg : Str → Option Value) : Prop where
  isinstance : mg "isinstance" = none
  int : mg "int" = none
  bool : mg "bool" = none
  str : mg "str" = none
  all : mg "all" = none
  letters : ∃ u, mg "LETTERS" = some u ∧ RelV (.str letS) u
def spNumber : Sp := fun vs H Q _ => ∃ x m, vs = [x, .int m] ∧ Pl H x ∧ Q (.bl (numB x m)) H
def spWhat (g : Str → Bool) : Sp := fun vs H Q _ => ∃ x, vs = [x] ∧ Pl H x ∧ ((∃ z, x = .str z ∧ z.cps.size ≤ 100000 ∧ ∀ H', Same H H' → Q (.bl (g z)) H') ∨ (isStrV x = false ∧ Q (.bl false) H))
def goodT (g : Str → Bool) (x : V) : Prop := ∃ z, x = .str z ∧ z.cps.size ≤ 100000 ∧ g z = true
def badT (g : Str → Bool) (x : V) : Prop := isStrV x = false ∨ ∃ z, x = .str z ∧ z.cps.size ≤ 100000 ∧ g z = false
/-- x is refused: an error of the class at C, x its value under the name f -/
def noX (C : Addr) (f : Str) (H : Hp) (x : V) (E : XK) : Prop := ∀ H' d, Same H H' → H' d = none → E (.ref C) (some d) (upd H' d (.xd [(f, x)]))
theorem noX.keep {C : Addr} {f : Str} {H H1 : Hp} {x : V} {E : XK} (h : noX C f H x E) (s : Same H H1) : noX C f H1 x E := fun H2 d s2 hd => h H2 d (s.trans s2) hd
def spCk (C : Addr) (g : Str → Bool) : Sp := fun vs H Q E => ∃ x, vs = [x] ∧ Pl H x ∧ ((∃ z, x = .str z ∧ z.cps.size ≤ 100000 ∧ g z = true ∧ ∀ H', Same H H' → Q .non H') ∨ (badT g x ∧ noX C "text" H x E))
def spCkN (CN : Addr) : Sp := fun vs H Q E => ∃ x m, vs = [x, .int m] ∧ Pl H x ∧ ((numB x m = true ∧ Q .non H) ∨ (numB x m = false ∧ noX CN "number" H x E))
section
variable {P : Program} {w : World} {K : PySem.W.Frag} {mg : Str → Option Value} {base : Heap} {C iC CN iN : Addr}
theorem scNum : FnScope ["value", "least"] ["value", "least"] (defScope sIsNum) := ⟨rfl, rfl, rfl, by decide +kernel, rfl, by decide +kernel, by decide +kernel⟩
theorem scIsText : FnScope ["value", "sign"] ["value"] (defScope sIsText) := ⟨rfl, rfl, rfl, by decide +kernel, rfl, by decide +kernel, by decide +kernel⟩
theorem ok_isNumber {f : Addr} {fd : FuncData} (F : Fun K "is_number" "is_number" sIsNum f fd) (T : TxtC K mg) : FnOk P w K mg base CX0 1 f fd ["value", "least"] spNumber := by
  refine F.ok scNum (fun vs H Q E h => ?_) (fun cdv A outer s H vs Q E hr h => ?_)
  · obtain ⟨x, m, rfl, _⟩ := h
    rfl
  · obtain ⟨x, m, rfl, hp, k⟩ := h
    have nd := scNum.nd
    refine ⟨_, (pss_one (ps_ret (pe_and (pe_callB call_isi (by rfl) T.isinstance (by decide +kernel) (pa_cons (pv 0) (pa_cons (pe_bltn (v := .ty "int") rfl T.int (by decide +kernel) rfl) pa_nil))) (pe_and (pe_not (pe_callB call_isi (by rfl) T.isinstance (by decide +kernel) (pa_cons (pv 0) (pa_cons (pe_bltn (v := .ty "bool") rfl T.bool (by decide +kernel) rfl) pa_nil)))) (pe_one (pe_cmpR op_ge (pv 0) (pv 1) (nomark _))))))), ?_⟩
    obtain ⟨t, ht, hk⟩ := hp.isInt (K := K)
    obtain ⟨t2, ht2, hk2⟩ := hp.isBl (K := K)
    refine ⟨_, rfl, _, _, _, _, _, rfl, .ty _, ht, hk, _, rfl, ?_⟩
    cases x with
    | int i =>
      exact ⟨_, rfl, _, _, _, _, _, rfl, .ty _, ht2, hk2, _, rfl, _, rfl, _, rfl, _, rfl, _, _, rfl, rfl, k⟩
    | bl b => exact ⟨_, rfl, _, _, _, _, _, rfl, .ty _, ht2, hk2, _, rfl, _, rfl, k⟩
    | _ => exact k
theorem ok_isText {f : Addr} {fd : FuncData} (F : Fun K "is_text" "is_text" sIsText f fd) (T : TxtC K mg) : FnOk P w K mg base CX0 1 f fd ["value"] (spWhat isT) := by
  refine F.ok scIsText (fun vs H Q E h => ?_) (fun cdv A outer s H vs Q E hr h => ?_)
  · obtain ⟨x, rfl, _⟩ := h
    rfl
  · obtain ⟨x, rfl, hp, k⟩ := h
    have nd := scIsText.nd
    refine ⟨_, (pss_one (ps_ret (pe_and (pe_callB call_isi (by rfl) T.isinstance (by decide +kernel) (pa_cons (pv 0) (pa_cons (pe_bltn (v := .ty "str") rfl T.str (by decide +kernel) rfl) pa_nil))) (pe_one (pe_callB (cr_all rfl) (by rfl) T.all (by decide +kernel) (pa_cons (pe_lc (own := [("sign", 1)]) (g := gName 1) (tt := tYes) rfl nd (pi_str (pv 0)) (blkOk_by (N := ["value", "sign"]) (sc := defScope sIsText) (by decide +kernel)) (fun _ _ _ _ _ => (pg_name (i := 1) nd rfl (Or.inl rfl))) (fun _ _ _ _ _ => pts_nil) (fun _ _ _ _ _ => (pe_cmpR op_in_sign (pv 1) (C8.pe_gc (by rfl) T.letters) (by rfl)))) pa_nil)))))), ?_⟩
    obtain ⟨t, ht, hk⟩ := hp.isStr (K := K)
    rcases k with ⟨z, rfl, hz, k⟩ | ⟨hs, k⟩
    · refine ⟨_, rfl, _, _, _, _, _, rfl, .ty _, ht, hk, _, rfl, _, rfl, z, rfl, fun D hD => lc_it (walk_str (z := z)) (fun i H' => Same H H' ∧ H' D = some (.lst (((z.cps.toList.take i).map fun c => decide (c ∈ letS.cps.toList)).map V.bl))) ⟨fun b o e => by rw [upd_ne (ne_of_none e hD)]; exact e, upd_same⟩ (fun _ _ _ _ => trivial) ?_ ?_⟩
      · rintro i y H1 H2 hi ⟨s1, d1⟩ ⟨rfl, c, hc, rfl⟩
        have hc' : z.cps.toList[i]? = some c := by rw [Array.getElem?_toList]; exact hc
        refine ⟨rfl, ?_⟩
        refine ⟨_, rfl, c, _, rfl, rfl, _, d1, ?_, fun b o e => ?_, ?_⟩
        · rw [List.length_map, List.length_map, List.length_take]
          have hl : z.cps.toList.length = z.cps.size := Array.length_toList
          have : i < 100000 := by omega
          exact Nat.lt_of_le_of_lt (Nat.min_le_left _ _) (Nat.lt_trans this (by decide))
        · rw [upd_ne (ne_of_none e hD)]
          exact s1 _ _ e
        · rw [upd_same, List.take_succ, hc', List.map_append, List.map_append]
          rfl
      · rintro H1 ⟨s1, d1⟩
        rw [← Array.length_toList, List.take_length] at d1
        refine ⟨D, _, rfl, .of d1, ?_⟩
        have e : ((z.cps.toList.map fun c => decide (c ∈ letS.cps.toList)).all id) = isT z := by
          unfold isT
          rw [List.all_map]
          rfl
        rw [e]
        exact k H1 s1
    · rw [hs] at hk
      exact ⟨_, rfl, _, _, _, _, _, rfl, .ty _, ht, hk, _, rfl, k⟩
theorem scCkText : FnScope ["text"] ["text"] (defScope sCkText) := ⟨rfl, rfl, rfl, by decide +kernel, rfl, by decide +kernel, by decide +kernel⟩
theorem ok_CkText {f fU : Addr} {fd fdU : FuncData} (F : Fun K "check_text" "check_text" sCkText f fd) (TX : ErrTxt P K mg "NoText" "text" C iC)
    (GU : FnOk P w K mg base CX0 1 fU fdU ["value"] (spWhat isT)) (gU : mg "is_text" = some (.ref fU)) (kU : PySem.W.keepIn K (.ref fU) = true) (bU : Binds K fdU ["value"] []) :
    FnOk P w K mg base (L2.CX P w) 3 f fd ["text"] (spCk C isT) := by
  refine F.okX scCkText (fun vs H Q E h => ?_) (fun cdv A outer s H vs Q E hr h => ?_)
  · obtain ⟨x, rfl, _⟩ := h
    rfl
  · obtain ⟨x, rfl, hp, k⟩ := h
    have nd := scCkText.nd
    have hr2 : Room 1 _ := hr.mono (by decide)
    refine ⟨_, pss_one (ps_if (pt_not (pt_val (pe_call GU hr2 rfl gU kU bU .nil pass0 (pa_cons (pv 0) pa_nil)))) (pss_one (ps_raiseErr rfl TX hr (takes_of rfl rfl rfl rfl) (pa_cons (pv 0) pa_nil) rfl)) pss_nil), ?_⟩
    rcases k with ⟨z, rfl, hz, hb, k⟩ | ⟨hs | ⟨z, rfl, hz, hb⟩, k⟩
    · exact ⟨_, rfl, _, rfl, hp, .inl ⟨z, rfl, hz, fun H1 s1 => ⟨_, rfl, by rw [hb]; exact k H1 s1⟩⟩⟩
    · exact ⟨_, rfl, _, rfl, hp, .inr ⟨hs, _, rfl, _, rfl, x, rfl, fun d hd => k _ d (.refl _) hd⟩⟩
    · exact ⟨_, rfl, _, rfl, hp, .inl ⟨z, rfl, hz, fun H1 s1 => ⟨_, rfl, by rw [hb]; exact ⟨_, rfl, _, rfl, fun d hd => k _ d s1 hd⟩⟩⟩⟩
theorem scCkN : FnScope ["number", "least"] ["number", "least"] (defScope sCkN) := ⟨rfl, rfl, rfl, by decide +kernel, rfl, by decide +kernel, by decide +kernel⟩
theorem ok_ckN {f fN : Addr} {fd fdN : FuncData} (F : Fun K "check_number" "check_number" sCkN f fd) (TN : ErrTxt P K mg "NoNumber" "number" CN iN)
    (GN : FnOk P w K mg base CX0 1 fN fdN ["value", "least"] spNumber) (gN : mg "is_number" = some (.ref fN)) (kN : PySem.W.keepIn K (.ref fN) = true) (bN : Binds K fdN ["value", "least"] []) :
    FnOk P w K mg base (L2.CX P w) 3 f fd ["number", "least"] (spCkN CN) := by
  refine F.okX scCkN (fun vs H Q E h => ?_) (fun cdv A outer s H vs Q E hr h => ?_)
  · obtain ⟨x, m, rfl, _⟩ := h
    rfl
  · obtain ⟨x, m, rfl, hp, k⟩ := h
    have nd := scCkN.nd
    have hr1 : Room 1 _ := hr.mono (by decide)
    refine ⟨_, pss_one (ps_if (pt_not (pt_val (pe_call GN hr1 rfl gN kN bN .nil pass0 (pa_cons (pv 0) (pa_cons (pv 1) pa_nil))))) (pss_one (ps_raiseErr rfl TN hr (takes_of rfl rfl rfl rfl) (pa_cons (pv 0) pa_nil) rfl)) pss_nil), ?_⟩
    refine ⟨_, rfl, _, rfl, x, m, rfl, hp, _, rfl, ?_⟩
    rcases k with ⟨hb, k⟩ | ⟨hb, k⟩
    · rw [hb]
      exact k
    · rw [hb]
      exact ⟨_, rfl, x, rfl, fun d hd => k _ d (.refl _) hd⟩
end
end T83

set_option Elab.async false
set_option linter.all false
set_option maxRecDepth 100000
set_option maxHeartbeats 4000000
namespace T83
open PySem L2 EK
abbrev sPartsOf : Stmt := top 13
abbrev sAlike : Stmt := top 14
abbrev sParting : Stmt := top 15
abbrev sAlikeNumber : Stmt := top 16
abbrev sAlone : Stmt := top 17
abbrev sAnother : Stmt := top 18
abbrev sExchange : Stmt := top 19
abbrev sWays : Stmt := top 20
abbrev spB1 (C : Addr) : Sp := fun vs H _ E => ∃ x, vs = [x] ∧ Pl H x ∧ badT isT x ∧ noX C "text" H x E
abbrev spB2 (C : Addr) : Sp := fun vs H _ E => ∃ x y, vs = [x, y] ∧ Pl H x ∧ ((badT isT x ∧ noX C "text" H x E) ∨ (goodT isT x ∧ Pl H y ∧ badT isT y ∧ noX C "text" H y E))
abbrev spTN (C CN : Addr) : Sp := fun vs H _ E => ∃ x y, vs = [x, y] ∧ Pl H x ∧ ((badT isT x ∧ noX C "text" H x E) ∨ (goodT isT x ∧ Pl H y ∧ numB y 1 = false ∧ noX CN "number" H y E))
abbrev spTTN (C CN : Addr) : Sp := fun vs H _ E => ∃ x y z, vs = [x, y, z] ∧ Pl H x ∧ ((badT isT x ∧ noX C "text" H x E) ∨ (goodT isT x ∧ Pl H y ∧ ((badT isT y ∧ noX C "text" H y E) ∨ (goodT isT y ∧ Pl H z ∧ numB z 1 = false ∧ noX CN "number" H z E))))
section
variable {P : Program} {w : World} {K : PySem.W.Frag} {mg : Str → Option Value} {base : Heap} {C iC CN iN : Addr}
theorem scPartsOf : FnScope ["text", "k"] ["text", "k"] (defScope sPartsOf) := ⟨rfl, rfl, rfl, by decide +kernel, rfl, by decide +kernel, by decide +kernel⟩
theorem ok_PartsOf {f fT fN : Addr} {fd fdT fdN : FuncData} (F : Fun K "parts_of" "parts_of" sPartsOf f fd)
    (GCT : FnOk P w K mg base (L2.CX P w) 3 fT fdT ["text"] (spCk C isT)) (gCT : mg "check_text" = some (.ref fT)) (kCT : PySem.W.keepIn K (.ref fT) = true) (bCT : Binds K fdT ["text"] [])
    (GCN : FnOk P w K mg base (L2.CX P w) 3 fN fdN ["number", "least"] (spCkN CN)) (gCN : mg "check_number" = some (.ref fN)) (kCN : PySem.W.keepIn K (.ref fN) = true) (bCN : Binds K fdN ["number", "least"] []) :
    FnOk P w K mg base (L2.CX P w) 4 f fd ["text", "k"] (spTN C CN) := by
  refine F.okX scPartsOf (fun vs H Q E h => ?_) (fun cdv A outer s H vs Q E hr h => ?_)
  · obtain ⟨x, y, rfl, _⟩ := h
    rfl
  · obtain ⟨x, y, rfl, hx, h⟩ := h
    have nd := scPartsOf.nd
    have hr3 : Room 3 _ := hr
    refine ⟨_, pss_cons (ps_expr (pe_call GCT hr3 rfl gCT kCT bCT .nil (passes_call (takes_of rfl rfl rfl rfl) fun _ _ _ _ h => h) (pa_cons (pv 0) pa_nil))) (pss_cons (ps_expr (pe_call GCN hr3 rfl gCN kCN bCN .nil (passes_call (takes_of rfl rfl rfl rfl) fun _ _ _ _ h => h) (pa_cons (pv 1) (pa_cons pe_int pa_nil)))) pss_never), ?_⟩
    rcases h with h | ⟨⟨z1, rfl, l1, g1⟩, hy, h⟩
    · exact ⟨_, rfl, x, rfl, hx, .inr h⟩
    · exact ⟨_, rfl, _, rfl, hx, .inl ⟨z1, rfl, l1, g1, fun H1 s1 => ⟨_, rfl, y, 1, rfl, hy.keep s1, .inr ⟨h.1, h.2.keep s1⟩⟩⟩⟩
theorem scAlike : FnScope ["one", "other", "k"] ["one", "other", "k"] (defScope sAlike) := ⟨rfl, rfl, rfl, by decide +kernel, rfl, by decide +kernel, by decide +kernel⟩
theorem ok_Alike {f fT fN : Addr} {fd fdT fdN : FuncData} (F : Fun K "alike" "alike" sAlike f fd)
    (GCT : FnOk P w K mg base (L2.CX P w) 3 fT fdT ["text"] (spCk C isT)) (gCT : mg "check_text" = some (.ref fT)) (kCT : PySem.W.keepIn K (.ref fT) = true) (bCT : Binds K fdT ["text"] [])
    (GCN : FnOk P w K mg base (L2.CX P w) 3 fN fdN ["number", "least"] (spCkN CN)) (gCN : mg "check_number" = some (.ref fN)) (kCN : PySem.W.keepIn K (.ref fN) = true) (bCN : Binds K fdN ["number", "least"] []) :
    FnOk P w K mg base (L2.CX P w) 4 f fd ["one", "other", "k"] (spTTN C CN) := by
  refine F.okX scAlike (fun vs H Q E h => ?_) (fun cdv A outer s H vs Q E hr h => ?_)
  · obtain ⟨x, y, z, rfl, _⟩ := h
    rfl
  · obtain ⟨x, y, z, rfl, hx, h⟩ := h
    have nd := scAlike.nd
    have hr3 : Room 3 _ := hr
    refine ⟨_, pss_cons (ps_expr (pe_call GCT hr3 rfl gCT kCT bCT .nil (passes_call (takes_of rfl rfl rfl rfl) fun _ _ _ _ h => h) (pa_cons (pv 0) pa_nil))) (pss_cons (ps_expr (pe_call GCT hr3 rfl gCT kCT bCT .nil (passes_call (takes_of rfl rfl rfl rfl) fun _ _ _ _ h => h) (pa_cons (pv 1) pa_nil))) (pss_cons (ps_expr (pe_call GCN hr3 rfl gCN kCN bCN .nil (passes_call (takes_of rfl rfl rfl rfl) fun _ _ _ _ h => h) (pa_cons (pv 2) (pa_cons pe_int pa_nil)))) pss_never)), ?_⟩
    rcases h with h | ⟨⟨z1, rfl, l1, g1⟩, hy, h⟩
    · exact ⟨_, rfl, x, rfl, hx, .inr h⟩
    · refine ⟨_, rfl, _, rfl, hx, .inl ⟨z1, rfl, l1, g1, fun H1 s1 => ?_⟩⟩
      rcases h with h | ⟨⟨z2, rfl, l2, g2⟩, hz, h⟩
      · exact ⟨_, rfl, y, rfl, hy.keep s1, .inr ⟨h.1, h.2.keep s1⟩⟩
      · exact ⟨_, rfl, _, rfl, hy.keep s1, .inl ⟨z2, rfl, l2, g2, fun H2 s2 => ⟨_, rfl, z, 1, rfl, (hz.keep s1).keep s2, .inr ⟨h.1, (h.2.keep s1).keep s2⟩⟩⟩⟩
theorem scParting : FnScope ["one", "other", "k"] ["one", "other"] (defScope sParting) := ⟨rfl, rfl, rfl, by decide +kernel, rfl, by decide +kernel, by decide +kernel⟩
theorem ok_Parting {f fT : Addr} {fd fdT : FuncData} (F : Fun K "parting" "parting" sParting f fd)
    (GCT : FnOk P w K mg base (L2.CX P w) 3 fT fdT ["text"] (spCk C isT)) (gCT : mg "check_text" = some (.ref fT)) (kCT : PySem.W.keepIn K (.ref fT) = true) (bCT : Binds K fdT ["text"] []) :
    FnOk P w K mg base (L2.CX P w) 4 f fd ["one", "other"] (spB2 C) := by
  refine F.okX scParting (fun vs H Q E h => ?_) (fun cdv A outer s H vs Q E hr h => ?_)
  · obtain ⟨x, y, rfl, _⟩ := h
    rfl
  · obtain ⟨x, y, rfl, hx, h⟩ := h
    have nd := scParting.nd
    have hr3 : Room 3 _ := hr
    refine ⟨_, pss_cons (ps_expr (pe_call GCT hr3 rfl gCT kCT bCT .nil (passes_call (takes_of rfl rfl rfl rfl) fun _ _ _ _ h => h) (pa_cons (pv 0) pa_nil))) (pss_cons (ps_expr (pe_call GCT hr3 rfl gCT kCT bCT .nil (passes_call (takes_of rfl rfl rfl rfl) fun _ _ _ _ h => h) (pa_cons (pv 1) pa_nil))) pss_never), ?_⟩
    rcases h with h | ⟨⟨z1, rfl, l1, g1⟩, hy, h⟩
    · exact ⟨_, rfl, x, rfl, hx, .inr h⟩
    · exact ⟨_, rfl, _, rfl, hx, .inl ⟨z1, rfl, l1, g1, fun H1 s1 => ⟨_, rfl, y, rfl, hy.keep s1, .inr ⟨h.1, h.2.keep s1⟩⟩⟩⟩
theorem scAlikeNumber : FnScope ["text", "k", "pieces", "arcs", "number", "leading", "many", "piece", "begin", "end"] ["text", "k"] (defScope sAlikeNumber) := ⟨rfl, rfl, rfl, by decide +kernel, rfl, by decide +kernel, by decide +kernel⟩
theorem ok_AlikeNumber {f fT fN : Addr} {fd fdT fdN : FuncData} (F : Fun K "alike_number" "alike_number" sAlikeNumber f fd)
    (GCT : FnOk P w K mg base (L2.CX P w) 3 fT fdT ["text"] (spCk C isT)) (gCT : mg "check_text" = some (.ref fT)) (kCT : PySem.W.keepIn K (.ref fT) = true) (bCT : Binds K fdT ["text"] [])
    (GCN : FnOk P w K mg base (L2.CX P w) 3 fN fdN ["number", "least"] (spCkN CN)) (gCN : mg "check_number" = some (.ref fN)) (kCN : PySem.W.keepIn K (.ref fN) = true) (bCN : Binds K fdN ["number", "least"] []) :
    FnOk P w K mg base (L2.CX P w) 4 f fd ["text", "k"] (spTN C CN) := by
  refine F.okX scAlikeNumber (fun vs H Q E h => ?_) (fun cdv A outer s H vs Q E hr h => ?_)
  · obtain ⟨x, y, rfl, _⟩ := h
    rfl
  · obtain ⟨x, y, rfl, hx, h⟩ := h
    have nd := scAlikeNumber.nd
    have hr3 : Room 3 _ := hr
    refine ⟨_, pss_cons (ps_expr (pe_call GCT hr3 rfl gCT kCT bCT .nil (passes_call (takes_of rfl rfl rfl rfl) fun _ _ _ _ h => h) (pa_cons (pv 0) pa_nil))) (pss_cons (ps_expr (pe_call GCN hr3 rfl gCN kCN bCN .nil (passes_call (takes_of rfl rfl rfl rfl) fun _ _ _ _ h => h) (pa_cons (pv 1) (pa_cons pe_int pa_nil)))) pss_never), ?_⟩
    rcases h with h | ⟨⟨z1, rfl, l1, g1⟩, hy, h⟩
    · exact ⟨_, rfl, x, rfl, hx, .inr h⟩
    · exact ⟨_, rfl, _, rfl, hx, .inl ⟨z1, rfl, l1, g1, fun H1 s1 => ⟨_, rfl, y, 1, rfl, hy.keep s1, .inr ⟨h.1, h.2.keep s1⟩⟩⟩⟩
theorem scAlone : FnScope ["text", "k"] ["text"] (defScope sAlone) := ⟨rfl, rfl, rfl, by decide +kernel, rfl, by decide +kernel, by decide +kernel⟩
theorem ok_Alone {f fT : Addr} {fd fdT : FuncData} (F : Fun K "alone" "alone" sAlone f fd)
    (GCT : FnOk P w K mg base (L2.CX P w) 3 fT fdT ["text"] (spCk C isT)) (gCT : mg "check_text" = some (.ref fT)) (kCT : PySem.W.keepIn K (.ref fT) = true) (bCT : Binds K fdT ["text"] []) :
    FnOk P w K mg base (L2.CX P w) 4 f fd ["text"] (spB1 C) := by
  refine F.okX scAlone (fun vs H Q E h => ?_) (fun cdv A outer s H vs Q E hr h => ?_)
  · obtain ⟨x, rfl, _⟩ := h
    rfl
  · obtain ⟨x, rfl, hx, h⟩ := h
    have nd := scAlone.nd
    have hr3 : Room 3 _ := hr
    exact ⟨_, pss_cons (ps_expr (pe_call GCT hr3 rfl gCT kCT bCT .nil (passes_call (takes_of rfl rfl rfl rfl) fun _ _ _ _ h => h) (pa_cons (pv 0) pa_nil))) pss_never, _, rfl, x, rfl, hx, .inr h⟩
theorem scAnother : FnScope ["text", "k", "least"] ["text", "k"] (defScope sAnother) := ⟨rfl, rfl, rfl, by decide +kernel, rfl, by decide +kernel, by decide +kernel⟩
theorem ok_Another {f fT fN : Addr} {fd fdT fdN : FuncData} (F : Fun K "another" "another" sAnother f fd)
    (GCT : FnOk P w K mg base (L2.CX P w) 3 fT fdT ["text"] (spCk C isT)) (gCT : mg "check_text" = some (.ref fT)) (kCT : PySem.W.keepIn K (.ref fT) = true) (bCT : Binds K fdT ["text"] [])
    (GCN : FnOk P w K mg base (L2.CX P w) 3 fN fdN ["number", "least"] (spCkN CN)) (gCN : mg "check_number" = some (.ref fN)) (kCN : PySem.W.keepIn K (.ref fN) = true) (bCN : Binds K fdN ["number", "least"] []) :
    FnOk P w K mg base (L2.CX P w) 4 f fd ["text", "k"] (spTN C CN) := by
  refine F.okX scAnother (fun vs H Q E h => ?_) (fun cdv A outer s H vs Q E hr h => ?_)
  · obtain ⟨x, y, rfl, _⟩ := h
    rfl
  · obtain ⟨x, y, rfl, hx, h⟩ := h
    have nd := scAnother.nd
    have hr3 : Room 3 _ := hr
    refine ⟨_, pss_cons (ps_expr (pe_call GCT hr3 rfl gCT kCT bCT .nil (passes_call (takes_of rfl rfl rfl rfl) fun _ _ _ _ h => h) (pa_cons (pv 0) pa_nil))) (pss_cons (ps_expr (pe_call GCN hr3 rfl gCN kCN bCN .nil (passes_call (takes_of rfl rfl rfl rfl) fun _ _ _ _ h => h) (pa_cons (pv 1) (pa_cons pe_int pa_nil)))) pss_never), ?_⟩
    rcases h with h | ⟨⟨z1, rfl, l1, g1⟩, hy, h⟩
    · exact ⟨_, rfl, x, rfl, hx, .inr h⟩
    · exact ⟨_, rfl, _, rfl, hx, .inl ⟨z1, rfl, l1, g1, fun H1 s1 => ⟨_, rfl, y, 1, rfl, hy.keep s1, .inr ⟨h.1, h.2.keep s1⟩⟩⟩⟩
theorem scExchange : FnScope ["text", "k", "words", "begin", "middle", "other", "end"] ["text", "k"] (defScope sExchange) := ⟨rfl, rfl, rfl, by decide +kernel, rfl, by decide +kernel, by decide +kernel⟩
theorem ok_Exchange {f fT fN : Addr} {fd fdT fdN : FuncData} (F : Fun K "exchange" "exchange" sExchange f fd)
    (GCT : FnOk P w K mg base (L2.CX P w) 3 fT fdT ["text"] (spCk C isT)) (gCT : mg "check_text" = some (.ref fT)) (kCT : PySem.W.keepIn K (.ref fT) = true) (bCT : Binds K fdT ["text"] [])
    (GCN : FnOk P w K mg base (L2.CX P w) 3 fN fdN ["number", "least"] (spCkN CN)) (gCN : mg "check_number" = some (.ref fN)) (kCN : PySem.W.keepIn K (.ref fN) = true) (bCN : Binds K fdN ["number", "least"] []) :
    FnOk P w K mg base (L2.CX P w) 4 f fd ["text", "k"] (spTN C CN) := by
  refine F.okX scExchange (fun vs H Q E h => ?_) (fun cdv A outer s H vs Q E hr h => ?_)
  · obtain ⟨x, y, rfl, _⟩ := h
    rfl
  · obtain ⟨x, y, rfl, hx, h⟩ := h
    have nd := scExchange.nd
    have hr3 : Room 3 _ := hr
    refine ⟨_, pss_cons (ps_expr (pe_call GCT hr3 rfl gCT kCT bCT .nil (passes_call (takes_of rfl rfl rfl rfl) fun _ _ _ _ h => h) (pa_cons (pv 0) pa_nil))) (pss_cons (ps_expr (pe_call GCN hr3 rfl gCN kCN bCN .nil (passes_call (takes_of rfl rfl rfl rfl) fun _ _ _ _ h => h) (pa_cons (pv 1) (pa_cons pe_int pa_nil)))) pss_never), ?_⟩
    rcases h with h | ⟨⟨z1, rfl, l1, g1⟩, hy, h⟩
    · exact ⟨_, rfl, x, rfl, hx, .inr h⟩
    · exact ⟨_, rfl, _, rfl, hx, .inl ⟨z1, rfl, l1, g1, fun H1 s1 => ⟨_, rfl, y, 1, rfl, hy.keep s1, .inr ⟨h.1, h.2.keep s1⟩⟩⟩⟩
theorem scWays : FnScope ["one", "other", "k", "texts"] ["one", "other", "k"] (defScope sWays) := ⟨rfl, rfl, rfl, by decide +kernel, rfl, by decide +kernel, by decide +kernel⟩
theorem ok_Ways {f fT fN : Addr} {fd fdT fdN : FuncData} (F : Fun K "ways" "ways" sWays f fd)
    (GCT : FnOk P w K mg base (L2.CX P w) 3 fT fdT ["text"] (spCk C isT)) (gCT : mg "check_text" = some (.ref fT)) (kCT : PySem.W.keepIn K (.ref fT) = true) (bCT : Binds K fdT ["text"] [])
    (GCN : FnOk P w K mg base (L2.CX P w) 3 fN fdN ["number", "least"] (spCkN CN)) (gCN : mg "check_number" = some (.ref fN)) (kCN : PySem.W.keepIn K (.ref fN) = true) (bCN : Binds K fdN ["number", "least"] []) :
    FnOk P w K mg base (L2.CX P w) 4 f fd ["one", "other", "k"] (spTTN C CN) := by
  refine F.okX scWays (fun vs H Q E h => ?_) (fun cdv A outer s H vs Q E hr h => ?_)
  · obtain ⟨x, y, z, rfl, _⟩ := h
    rfl
  · obtain ⟨x, y, z, rfl, hx, h⟩ := h
    have nd := scWays.nd
    have hr3 : Room 3 _ := hr
    refine ⟨_, pss_cons (ps_expr (pe_call GCT hr3 rfl gCT kCT bCT .nil (passes_call (takes_of rfl rfl rfl rfl) fun _ _ _ _ h => h) (pa_cons (pv 0) pa_nil))) (pss_cons (ps_expr (pe_call GCT hr3 rfl gCT kCT bCT .nil (passes_call (takes_of rfl rfl rfl rfl) fun _ _ _ _ h => h) (pa_cons (pv 1) pa_nil))) (pss_cons (ps_expr (pe_call GCN hr3 rfl gCN kCN bCN .nil (passes_call (takes_of rfl rfl rfl rfl) fun _ _ _ _ h => h) (pa_cons (pv 2) (pa_cons pe_int pa_nil)))) pss_never)), ?_⟩
    rcases h with h | ⟨⟨z1, rfl, l1, g1⟩, hy, h⟩
    · exact ⟨_, rfl, x, rfl, hx, .inr h⟩
    · refine ⟨_, rfl, _, rfl, hx, .inl ⟨z1, rfl, l1, g1, fun H1 s1 => ?_⟩⟩
      rcases h with h | ⟨⟨z2, rfl, l2, g2⟩, hz, h⟩
      · exact ⟨_, rfl, y, rfl, hy.keep s1, .inr ⟨h.1, h.2.keep s1⟩⟩
      · exact ⟨_, rfl, _, rfl, hy.keep s1, .inl ⟨z2, rfl, l2, g2, fun H2 s2 => ⟨_, rfl, z, 1, rfl, (hz.keep s1).keep s2, .inr ⟨h.1, (h.2.keep s1).keep s2⟩⟩⟩⟩
end
end T83

set_option Elab.async false
set_option linter.all false
set_option maxRecDepth 100000
set_option maxHeartbeats 4000000
namespace T83
open PySem PySem.Spec PyProof.Rows L2 EK LamX
abbrev sSaid : Stmt := top 37
/-- what the law asks of the classes -/
structure Kinds (K : PySem.W.Frag) (mg : Str → Option Value) (E0 CT CN CR : Addr) : Prop where
  isinstance : mg "isinstance" = none
  g0 : mg "TurnError" = some (.ref E0)
  gT : mg "NoText" = some (.ref CT)
  gN : mg "NoNumber" = some (.ref CN)
  gR : mg "NoRow" = some (.ref CR)
  xT : ExcC K CT
  xN : ExcC K CN
  t0 : PySem.W.kitOne K (.ref CT) (.ref E0) = some true
  tN : PySem.W.kitOne K (.ref CT) (.ref CN) = some false
  tR : PySem.W.kitOne K (.ref CT) (.ref CR) = some false
  n0 : PySem.W.kitOne K (.ref CN) (.ref E0) = some true
  nT : PySem.W.kitOne K (.ref CN) (.ref CT) = some false
  nR : PySem.W.kitOne K (.ref CN) (.ref CR) = some false
  e11 : PySem.W.exmOne K (.ref CT) (.ref CT) = some true
  e21 : PySem.W.exmOne K (.ref CN) (.ref CT) = some false
  e22 : PySem.W.exmOne K (.ref CN) (.ref CN) = some true
def wSay (CT CN : Addr) (Q : VK) : XK := fun cls d H => errL CT "text" "text" Q cls d H ∨ errL CN "number" "number" Q cls d H
def TSay (CT CN : Addr) : (XK → Hp → VK → Prop) → Hp → VK → Prop := fun tl H Q => tl (wSay CT CN Q) H fun _ H1 => Q (.str "told") H1
theorem scSaid : FnScope ["_law_ask", "_law_is_right", "e"] ["_law_ask"] (defScope sSaid) := ⟨rfl, rfl, rfl, by decide +kernel, rfl, by decide +kernel, by decide +kernel⟩
theorem two (x y : V) : [x, y].length ≤ sizeLine := by show 2 ≤ sizeLine; decide
section
variable {X : Cx} {E0 CT CN CR iT iN : Addr}
theorem said_gives {q : Str} {g : Addr} {cdg : Value} (M : Kinds X.K X.mg E0 CT CN CR) (T1 : ErrTxt X.prog X.K X.mg "NoText" "text" CT iT) (T2 : ErrTxt X.prog X.K X.mg "NoNumber" "number" CN iN) :
    GivesTo X ["_law_ask", "_law_is_right", "e"] "_law_said" (defScope sSaid) g cdg (defBody sSaid) "_law_ask" q (TSay CT CN) := by
  intro f c' s H Q tl act hc h
  have nd := scSaid.nd
  refine ⟨_, pss_cons (ps_tryC (X := (cxOf C8.CX0 X.prog X.w X.K X.mg X.base ["_law_ask", "_law_is_right", "e"] "_law_said" (defScope sSaid) g cdg X.A X.stack s H C8.E0).nox)
      (tb := fun W D σ H => ∃ Ech : XK, (∀ cls d σ' H', Ech cls d H' → W cls d σ' H') ∧ σ[0]? = some (some (.ref f)) ∧ H c' = some (CodeO c' q) ∧ tl Ech H (fun _ H1 => D.nx σ H1))
      (l := [⟨.ref CT, some 2, _⟩, ⟨.ref CN, some 2, _⟩])
      rfl rfl nd LamX.takes0 (fun W pn xe tk _ => ?_)
      (ClOk.as rfl rfl ⟨rfl, by decide, .inl M.gT⟩ (fun a oe cls d pn hz hf => pss_cons (ps_set (i := 1) nd rfl (Or.inl rfl) (pe_and (pe_callB (call_isX hz hf) (by rfl) M.isinstance (by decide +kernel) (pa_cons (pv 2) (pa_cons (pe_glob (v := .ref E0) rfl M.g0 rfl) pa_nil))) (pe_and (pe_not (pe_callB (call_isX hz hf) (by rfl) M.isinstance (by decide +kernel) (pa_cons (pv 2) (pa_cons (pe_glob (v := .ref CN) rfl M.gN rfl) pa_nil)))) (pe_one (pe_not (pe_callB (call_isX hz hf) (by rfl) M.isinstance (by decide +kernel) (pa_cons (pv 2) (pa_cons (pe_glob (v := .ref CR) rfl M.gR rfl) pa_nil))))))))
          (pss_one (ps_ret (pe_ifExp (pt_val (pv 1)) (pe_lst (pa_cons pe_str (pa_cons (pe_xf T1.xf T1.noN hz hf (pv 2)) pa_nil))) pe_str))))
        (ClOk.as rfl rfl ⟨rfl, by decide, .inl M.gN⟩ (fun a oe cls d pn hz hf => pss_cons (ps_set (i := 1) nd rfl (Or.inl rfl) (pe_and (pe_callB (call_isX hz hf) (by rfl) M.isinstance (by decide +kernel) (pa_cons (pv 2) (pa_cons (pe_glob (v := .ref E0) rfl M.g0 rfl) pa_nil))) (pe_and (pe_not (pe_callB (call_isX hz hf) (by rfl) M.isinstance (by decide +kernel) (pa_cons (pv 2) (pa_cons (pe_glob (v := .ref CT) rfl M.gT rfl) pa_nil)))) (pe_one (pe_not (pe_callB (call_isX hz hf) (by rfl) M.isinstance (by decide +kernel) (pa_cons (pv 2) (pa_cons (pe_glob (v := .ref CR) rfl M.gR rfl) pa_nil))))))))
          (pss_one (ps_ret (pe_ifExp (pt_val (pv 1)) (pe_lst (pa_cons pe_str (pa_cons (pe_xf T2.xf T2.noN hz hf (pv 2)) pa_nil))) pe_str)))) .nil))) (pss_one (ps_ret pe_str)), ?_⟩
  · refine ⟨fun pins s' σ H' D I h' => ?_⟩
    obtain ⟨Ech, hW, h1, h2, h3⟩ := h'
    have hp := fun p1 p2 => act W pn xe Ech p1 p2 tk hW
    have hq := fun p1 p2 p3 => pss_one (ps_expr (pos := p3) (hp p1 p2))
    exact (hq _ _ _).run pins s' σ H' D I ⟨h1, h2, h3⟩
  · refine ⟨wSay CT CN Q, fun cls d σ' H' hw => ?_, rfl, hc, h⟩
    have two : ∀ x y : V, [x, y].length ≤ sizeLine := fun x y => by show 2 ≤ sizeLine; decide
    have s2 : ∀ (y : V), 2 < σ'.length → (σ'.set 2 (some y))[2]? = some (some y) := fun y hl => by rw [List.getElem?_set_self hl]
    have s1 : ∀ (x y : V), 2 < σ'.length → ((σ'.set 2 (some y)).set 1 (some x))[1]? = some (some x) := fun x y hl => List.getElem?_set_self (by rw [List.length_set]; omega)
    have s3 : ∀ (x y : V), 2 < σ'.length → ((σ'.set 2 (some y)).set 1 (some x))[2]? = some (some y) := fun x y hl => by rw [List.getElem?_set_ne (by decide), List.getElem?_set_self hl]
    rcases hw with ⟨rfl, dd, v, rfl, hd, k⟩ | ⟨rfl, dd, v, rfl, hd, k⟩
    · refine ⟨true, M.e11, fun _ a ha hl => ?_, fun z => by cases z⟩
      refine ⟨_, s2 _ hl, CT, dd, _, _, _, true, rfl, rfl, rfl, hd, M.xT, .own E0, M.t0, _, rfl, ?_⟩
      refine ⟨_, s2 _ hl, CT, dd, _, _, _, false, rfl, rfl, rfl, hd, M.xT, .own CN, M.tN, _, rfl, _, rfl, ?_⟩
      refine ⟨_, s2 _ hl, CT, dd, _, _, _, false, rfl, rfl, rfl, hd, M.xT, .own CR, M.tR, _, rfl, ?_⟩
      refine ⟨_, s1 _ _ hl, _, rfl, ?_⟩
      refine ite_yes rfl ?_
      exact ⟨_, s3 _ _ hl, rfl, rfl, dd, _, v, rfl, hd, look1 _ _, two _ _, k⟩
    · refine ⟨false, M.e21, fun z => (by cases z), fun _ => ⟨true, M.e22, fun _ a ha hl => ?_, fun z => by cases z⟩⟩
      refine ⟨_, s2 _ hl, CN, dd, _, _, _, true, rfl, rfl, rfl, hd, M.xN, .own E0, M.n0, _, rfl, ?_⟩
      refine ⟨_, s2 _ hl, CN, dd, _, _, _, false, rfl, rfl, rfl, hd, M.xN, .own CT, M.nT, _, rfl, _, rfl, ?_⟩
      refine ⟨_, s2 _ hl, CN, dd, _, _, _, false, rfl, rfl, rfl, hd, M.xN, .own CR, M.nR, _, rfl, ?_⟩
      refine ⟨_, s1 _ _ hl, _, rfl, ?_⟩
      refine ite_yes rfl ?_
      exact ⟨_, s3 _ _ hl, rfl, rfl, dd, _, v, rfl, hd, look1 _ _, two _ _, k⟩
end
end T83

set_option Elab.async false
set_option linter.all false
set_option maxRecDepth 100000
set_option maxHeartbeats 4000000
namespace T83
open PySem L2 EK LamX
abbrev sR1 : Stmt := top 38
abbrev sR2 : Stmt := top 39
abbrev sLaw : Stmt := top 40
abbrev q1 : Str := ("_law_one_text_right" : Str) ++ ".<locals>." ++ "<lambda>"
abbrev q2 : Str := ("_law_two_texts_right" : Str) ++ ".<locals>." ++ "<lambda>"
abbrev T2 (P1 P2 : Addr) : List (Addr × Str) := [(P1, q1), (P2, q2)]
theorem one_only {P1 P2 : Addr} (h : P1 ≠ P2) : ∀ p ∈ T2 P1 P2, p.1 = P1 → p.2 = q1 := fun p hp e => by
  rcases List.mem_cons.mp hp with rfl | hp
  · rfl
  · rw [List.mem_singleton.mp hp] at e
    exact absurd e.symm h
theorem two_only {P1 P2 : Addr} (h : P1 ≠ P2) : ∀ p ∈ T2 P1 P2, p.1 = P2 → p.2 = q2 := fun p hp e => by
  rcases List.mem_cons.mp hp with rfl | hp
  · exact absurd e h
  · rw [List.mem_singleton.mp hp]
theorem Pl.keepN {H H' : Hp} {x : V} (h : Pl H x) (s : ExtN H H') : Pl H' x := by
  cases h with
  | non => exact .non
  | int i => exact .int i
  | str z => exact .str z
  | bl b => exact .bl b
  | tup e => exact .tup (s _ _ e fun _ z => by cases z)
  | lst e => exact .lst (s _ _ e fun _ z => by cases z)
  | dct e => exact .dct (s _ _ e fun _ z => by cases z)
theorem WellAt.keepN {H H' : Hp} {a : Addr} {n : Int} (h : WellAt H a n) (s : ExtN H H') : WellAt H' a n := by
  obtain ⟨w0, w1, w2, e, r⟩ := h
  exact ⟨w0, w1, w2, s _ _ e (fun _ z => by cases z), r⟩
theorem Pl.keepW {H H' : Hp} {wl : Addr} {n n' : Int} {x : V} (h : Pl H x) (w : WellAt H wl n) (w' : WellAt H' wl n') (s : KeepB wl H H') : Pl H' x := by
  obtain ⟨_, _, _, ew, _⟩ := w
  obtain ⟨_, _, _, ew', _⟩ := w'
  cases h with
  | non => exact .non
  | int i => exact .int i
  | str z => exact .str z
  | bl b => exact .bl b
  | @tup a xs e => exact .tup (s _ _ e fun z => by rw [z, ew] at e; cases e)
  | @lst a xs e =>
    by_cases z : a = wl
    · rw [z]
      exact .lst ew'
    · exact .lst (s _ _ e z)
  | @dct a kvs e => exact .dct (s _ _ e fun z => by rw [z, ew] at e; cases e)
theorem alloc_o {H Hb : Hp} {p : Addr} {o : HO} (hp : H p = none) (s : Same H Hb) : ∃ H1, upd Hb p o = H1 ∧ Same H H1 ∧ H1 p = some o ∧ ∀ b u, Hb b = some u → b ≠ p → H1 b = some u :=
  ⟨_, rfl, fun b u e => by rw [upd_ne (ne_of_none e hp)]; exact s _ _ e, upd_same, fun b u e n => by rw [upd_ne n]; exact e⟩
theorem _root_.LamX.Tabs.keepW {T : List (Addr × Str)} {H H' : Hp} {wl : Addr} {n : Int} (t : Tabs T H) (w : WellAt H wl n) (s : KeepB wl H H') : Tabs T H' := fun p hp => by
  obtain ⟨w0, w1, w2, ew, _⟩ := w
  obtain ⟨ps, h1, h2, h3⟩ := t p hp
  refine ⟨ps, s _ _ h1 (fun z => by rw [z, ew] at h1; cases h1), h2, fun pos cv hc => ?_⟩
  obtain ⟨c, e1, e2⟩ := h3 pos cv hc
  refine ⟨c, e1, s _ _ e2 fun z => ?_⟩
  rw [z, ew] at e2
  unfold CodeO at e2
  cases e2
theorem Pl.nf {H : Hp} {x : V} (h : Pl H x) : ∀ c, x ≠ .flt c := fun c e => by
  subst e
  cases h
theorem same_pair {K : PySem.W.Frag} {H : Hp} {m : Str} {x : V} (nf : ∀ c, x ≠ .flt c) : ∀ (i : Nat) u v, [V.str m, x][i]? = some u → [V.str m, x][i]? = some v → Sm K H 60 u v := fun i u v h1 h2 => by
  obtain rfl : u = v := Option.some.inj (h1.symm.trans h2)
  refine .rf u fun b z => ?_
  have hm := List.mem_of_getElem? h1
  rcases List.mem_cons.mp hm with e | hm
  · rw [e] at z
    cases z
  · rw [List.mem_singleton.mp hm] at z
    exact nf b z
/-- _law_said, as the top holds it -/
structure SaidAt (K : PySem.W.Frag) (mg : Str → Option Value) (fQ : Addr) (dVQ kVQ docQ pmQ cdQ ctQ ocQ : Value) (anQ odQ : Option Addr) (oslQ : Array (Option Value)) : Prop where
  lk : K.lookup fQ = some ⟨ocQ, odQ, .func (PySem.W.fnOf "_law_said" "_law_said" (defArgs sSaid) (defBody sSaid) (defScope sSaid) dVQ kVQ docQ pmQ anQ cdQ ctQ), oslQ⟩
  g : mg "_law_said" = some (.ref fQ)
  k : PySem.W.keepIn K (.ref fQ) = true
  c : PySem.W.codeIn K cdQ "_law_said" = true
  b : Binds K (PySem.W.fnOf "_law_said" "_law_said" (defArgs sSaid) (defBody sSaid) (defScope sSaid) dVQ kVQ docQ pmQ anQ cdQ ctQ) ["_law_ask"] []
def spR1 (P1 P2 : Addr) : Sp := fun vs H Q _ => ∃ x y, vs = [x, y] ∧ Pl H x ∧ badT isT x ∧ Pl H y ∧ numB y 1 = false ∧ Tabs (T2 P1 P2) H ∧ ∀ H', ExtN H H' → Tabs (T2 P1 P2) H' → Q (.bl true) H'
def spR2 (P1 P2 : Addr) : Sp := fun vs H Q _ => ∃ x y z, vs = [x, y, z] ∧ Pl H x ∧ badT isT x ∧ Pl H y ∧ badT isT y ∧ Pl H z ∧ numB z 1 = false ∧ Tabs (T2 P1 P2) H ∧ ∀ H', ExtN H H' → Tabs (T2 P1 P2) H' → Q (.bl true) H'
def spLaw (K : PySem.W.Frag) (P1 P2 : Addr) : Sp := fun vs H Q _ => ∃ (a : Addr) (ns : List Int), vs = [.ref a] ∧ SqL K H a (ns.map V.int) ∧ ns.length ≤ 63 ∧ H P1 = some (.tbl #[]) ∧ H P2 = some (.tbl #[]) ∧ ∀ H', Q (.bl true) H'
section
variable {P : Program} {w : World} {K : PySem.W.Frag} {mg : Str → Option Value} {base : Heap} {E0 CT CN CR iT iN P1 P2 : Addr} {fQ : Addr} {dVQ kVQ docQ pmQ cdQ ctQ ocQ : Value} {anQ odQ : Option Addr} {oslQ : Array (Option Value)}
theorem scR1 : FnScope ["_law_odd", "_law_wrong", "_law_ask"] ["_law_odd", "_law_wrong"] (defScope sR1) := ⟨rfl, rfl, rfl, by decide +kernel, rfl, by decide +kernel, by decide +kernel⟩
theorem scR2 : FnScope ["_law_odd", "_law_other", "_law_wrong", "_law_ask"] ["_law_odd", "_law_other", "_law_wrong"] (defScope sR2) := ⟨rfl, rfl, rfl, by decide +kernel, rfl, by decide +kernel, by decide +kernel⟩
theorem scLaw : FnScope ["_law_script", "_law_things", "_law_numbers", "_law_cell", "_law_well_here", "_law_odd", "_law_other", "_law_wrong"] ["_law_script"] (defScope sLaw) := ⟨rfl, rfl, rfl, by decide +kernel, rfl, by decide +kernel, by decide +kernel⟩
theorem no_text {H : Hp} {x : V} {Q : VK} (k : ∀ H1 p, Same H H1 → H1 p = some (.lst [.str "text", x]) → Q (.ref p) H1) : noX CT "text" H x (wSay CT CN Q) := fun Hk d sk hd => by
  obtain ⟨Hl, el, Sl, Al⟩ := alloc (o := .xd [("text", x)]) hd
  rw [el]
  refine .inl ⟨rfl, d, x, rfl, Al, fun p hp => ?_⟩
  obtain ⟨Hm, em, Sm', Am⟩ := alloc (o := .lst [.str "text", x]) hp
  rw [em]
  exact k Hm p ((sk.trans Sl).trans Sm') Am
theorem no_num {H : Hp} {x : V} {Q : VK} (k : ∀ H1 p, Same H H1 → H1 p = some (.lst [.str "number", x]) → Q (.ref p) H1) : noX CN "number" H x (wSay CT CN Q) := fun Hk d sk hd => by
  obtain ⟨Hl, el, Sl, Al⟩ := alloc (o := .xd [("number", x)]) hd
  rw [el]
  refine .inr ⟨rfl, d, x, rfl, Al, fun p hp => ?_⟩
  obtain ⟨Hm, em, Sm', Am⟩ := alloc (o := .lst [.str "number", x]) hp
  rw [em]
  exact k Hm p ((sk.trans Sl).trans Sm') Am
theorem good_z (z : Str) (h : z.cps.size ≤ 100000) (g : isT z = true) : goodT isT (.str z) := ⟨z, rfl, h, g⟩
/-- a def that may be asked, as a slot holds it -/
abbrev AskAt (P : Program) (w : World) (K : PySem.W.Frag) (mg : Str → Option Value) (base : Heap) (f : Addr) (sp : Sp) : Prop := ∃ (fd : FuncData) (ps : List Str), FnOk P w K mg base (L2.CX P w) 4 f fd ps sp ∧ PySem.W.keepIn K (.ref f) = true ∧ Binds K fd ps []
theorem ok_R1 {f cL : Addr} {dV kV doc pm ct oc : Value} {an od : Option Addr} {osl : Array (Option Value)} (lk : K.lookup f = some ⟨oc, od, .func (PySem.W.fnOf "_law_one_text_right" "_law_one_text_right" (defArgs sR1) (defBody sR1) (defScope sR1) dV kV doc pm an (.ref cL) ct), osl⟩) (hcd : PySem.W.codeIn K (.ref cL) "_law_one_text_right" = true) (TB : TabB base mg cL P1) (hP : P1 ≠ P2)
    (M : Kinds K mg E0 CT CN CR) (XT : ErrTxt P K mg "NoText" "text" CT iT) (XN : ErrTxt P K mg "NoNumber" "number" CN iN) (SD : SaidAt K mg fQ dVQ kVQ docQ pmQ cdQ ctQ ocQ anQ odQ oslQ)
    {fA fB fC fD fL : Addr} {fdA fdB fdC fdD fdL : FuncData}
    (GA : FnOk P w K mg base (L2.CX P w) 4 fA fdA ["text", "k"] (spTN CT CN)) (gA : mg "parts_of" = some (.ref fA)) (kA : PySem.W.keepIn K (.ref fA) = true) (bA : Binds K fdA ["text", "k"] [])
    (GB : FnOk P w K mg base (L2.CX P w) 4 fB fdB ["text", "k"] (spTN CT CN)) (gB : mg "alike_number" = some (.ref fB)) (kB : PySem.W.keepIn K (.ref fB) = true) (bB : Binds K fdB ["text", "k"] [])
    (GC : FnOk P w K mg base (L2.CX P w) 4 fC fdC ["text", "k"] (spTN CT CN)) (gC : mg "another" = some (.ref fC)) (kC : PySem.W.keepIn K (.ref fC) = true) (bC : Binds K fdC ["text", "k"] [])
    (GD : FnOk P w K mg base (L2.CX P w) 4 fD fdD ["text", "k"] (spTN CT CN)) (gD : mg "exchange" = some (.ref fD)) (kD : PySem.W.keepIn K (.ref fD) = true) (bD : Binds K fdD ["text", "k"] [])
    (GL : FnOk P w K mg base (L2.CX P w) 4 fL fdL ["text"] (spB1 CT)) (gL : mg "alone" = some (.ref fL)) (kL : PySem.W.keepIn K (.ref fL) = true) (bL : Binds K fdL ["text"] []) :
    FnOk P w K mg base CX0 7 f (PySem.W.fnOf "_law_one_text_right" "_law_one_text_right" (defArgs sR1) (defBody sR1) (defScope sR1) dV kV doc pm an (.ref cL) ct) ["_law_odd", "_law_wrong"] (spR1 P1 P2) := by
  refine fn_of lk hcd scR1 (fun vs H Q E h => ?_) (fun A outer s H vs Q E hr h => ?_)
  · obtain ⟨x, y, rfl, _⟩ := h
    rfl
  · obtain ⟨x, y, rfl, px, bx, py, by', hT, k⟩ := h
    have nd := scR1.nd
    have hu : (A.deeper (PyProof.Rows.envOfC "_law_one_text_right" (defScope sR1) s.heap.objs.size f (.ref cL))).units + 64 < cLine := hr.units
    have hrX : Room 6 _ := hr
    have hF : ∀ g ∈ [fA, fB, fC, fD], AskAt P w K mg base g (spTN CT CN) := fun g hg => by
      rcases List.mem_cons.mp hg with rfl | hg
      · exact ⟨_, _, GA, kA, bA⟩
      rcases List.mem_cons.mp hg with rfl | hg
      · exact ⟨_, _, GB, kB, bB⟩
      rcases List.mem_cons.mp hg with rfl | hg
      · exact ⟨_, _, GC, kC, bC⟩
      rw [List.mem_singleton.mp hg]
      exact ⟨_, _, GD, kD, bD⟩
    refine ⟨_, PSs.nox (pss_cons (ps_for PassesOwn.never rfl (pi_tup (pe_tup (pa_cons (pe_glob (v := .ref fA) rfl gA rfl) (pa_cons (pe_glob (v := .ref fB) rfl gB rfl) (pa_cons (pe_glob (v := .ref fC) rfl gC rfl) (pa_cons (pe_glob (v := .ref fD) rfl gD rfl) pa_nil)))))) (pg_name (i := 2) nd rfl (Or.inr rfl))
      (pss_cons (ps_if (pt_cmpR (op_neS hu) (pe_lamcall (T := T2 P1 P2) (TT := TSay CT CN) (k := 4) rfl SD.g SD.k SD.lk SD.c SD.b scSaid rfl (Or.inl rfl) (said_gives M XT XN) TB rfl (List.mem_cons_self) (one_only hP) hrX (lamS_by (sc := defScope sR1) (by decide +kernel)) rfl (fun _ _ _ _ _ => rfl) (fun A outer s H E f c' hr' => pe_callF (i := 2) (sp := spTN CT CN) (fs := [fA, fB, fC, fD]) hF hr' rfl (by first | exact .inl rfl | exact .inr (.inl rfl) | exact .inr (.inr rfl)) (passes_call (takes_of rfl rfl rfl rfl) fun _ _ _ _ h => h) (pa_cons (pv 0) (pa_cons (pv 1) pa_nil)))) (pe_lst (pa_cons pe_str (pa_cons (pv 0) pa_nil))) (nomark _)) (pss_one (ps_ret pe_bl)) pss_nil)
      (pss_one (ps_if (pt_cmpR (op_neS hu) (pe_lamcall (T := T2 P1 P2) (TT := TSay CT CN) (k := 4) rfl SD.g SD.k SD.lk SD.c SD.b scSaid rfl (Or.inl rfl) (said_gives M XT XN) TB rfl (List.mem_cons_self) (one_only hP) hrX (lamS_by (sc := defScope sR1) (by decide +kernel)) rfl (fun _ _ _ _ _ => rfl) (fun A outer s H E f c' hr' => pe_callF (i := 2) (sp := spTN CT CN) (fs := [fA, fB, fC, fD]) hF hr' rfl (by first | exact .inl rfl | exact .inr (.inl rfl) | exact .inr (.inr rfl)) (passes_call (takes_of rfl rfl rfl rfl) fun _ _ _ _ h => h) (pa_cons pe_str (pa_cons (pv 1) pa_nil)))) (pe_lst (pa_cons pe_str (pa_cons (pv 1) pa_nil))) (nomark _)) (pss_one (ps_ret pe_bl)) pss_nil))))
      (pss_one (ps_ret (pe_cmpR (op_eqS hu) (pe_lamcall (T := T2 P1 P2) (TT := TSay CT CN) (k := 4) rfl SD.g SD.k SD.lk SD.c SD.b scSaid rfl (Or.inl rfl) (said_gives M XT XN) TB rfl (List.mem_cons_self) (one_only hP) hrX (lamS_by (sc := defScope sR1) (by decide +kernel)) rfl (fun _ _ _ _ _ => rfl) (fun A outer s H E f c' hr' => pe_call GL hr' rfl gL kL bL .nil (passes_call (takes_of rfl rfl rfl rfl) fun _ _ _ _ h => h) (pa_cons (pv 0) pa_nil))) (pe_lst (pa_cons pe_str (pa_cons (pv 0) pa_nil))) (nomark _))))), ?_⟩
    refine ⟨(by show 4 ≤ sizeLine; decide), fun t zt => ?_⟩
    obtain ⟨H0, e0, S0, A0⟩ := alloc (o := .tup [.ref fA, .ref fB, .ref fC, .ref fD]) zt
    rw [e0]
    refine ⟨t, rfl, ⟨_, .inl (.inl A0)⟩, for_it (walk_tup (K := K) (a := t) (xs := [.ref fA, .ref fB, .ref fC, .ref fD])) (fun i σ H' => ∃ v2 : Option V, σ = [some x, some y, v2] ∧ ExtN H0 H' ∧ Tabs (T2 P1 P2) H') ⟨_, rfl, .refl _, hT.ext S0⟩ (fun i σ H' _ ⟨_, _, s, _⟩ => .inl (.inl (s _ _ A0 fun _ z => by cases z))) ?_ ?_⟩
    · rintro i g σ Hz H1 hi ⟨v2, rfl, s1, Ti⟩ ⟨rfl, hg⟩
      obtain ⟨f', hf', rfl⟩ : ∃ f' ∈ [fA, fB, fC, fD], g = .ref f' := by
        have hm := List.mem_of_getElem? hg
        exact (List.mem_map (f := V.ref) (l := [fA, fB, fC, fD])).mp hm |>.imp fun _ h => ⟨h.1, h.2.symm⟩
      refine ⟨Ti, fun Hj eN Tj => ?_⟩
      have px' := (px.keep S0).keepN (s1.trans eN)
      refine ⟨f', hf', rfl, _, rfl, _, rfl, x, y, rfl, px', .inl ⟨bx, no_text fun H2 p sp ap => ?_⟩⟩
      refine ⟨_, rfl, (by show 2 ≤ sizeLine; decide), fun p2 hp2 => ?_⟩
      obtain ⟨H3, e3, S3, A3⟩ := alloc (o := .lst [.str "text", x]) hp2
      rw [e3]
      refine ⟨.ls (.of (S3 _ _ ap)) (.of A3) rfl (same_pair px.nf), _, rfl, ?_⟩
      have n3 : ExtN H0 H3 := (s1.trans eN).trans (.of (sp.trans S3))
      refine ⟨Tj.ext (sp.trans S3), fun Hk eK Tk => ?_⟩
      have py' := (py.keep S0).keepN (n3.trans eK)
      refine ⟨f', hf', rfl, _, rfl, .str "abba", y, rfl, .str _, .inr ⟨good_z _ (by decide) (by decide +kernel), py', by', no_num fun H4 p4 s4 a4 => ?_⟩⟩
      refine ⟨_, rfl, (by show 2 ≤ sizeLine; decide), fun p5 hp5 => ?_⟩
      obtain ⟨H5, e5, S5, A5⟩ := alloc (o := .lst [.str "number", y]) hp5
      rw [e5]
      refine ⟨.ls (.of (S5 _ _ a4)) (.of A5) rfl (same_pair py.nf), _, rfl, ?_⟩
      exact ⟨_, rfl, (n3.trans eK).trans (.of (s4.trans S5)), Tk.ext (s4.trans S5)⟩
    · rintro σ H1 ⟨v2, rfl, s1, Ti⟩
      refine ⟨Ti, fun Hj eN Tj => ?_⟩
      have px' := (px.keep S0).keepN (s1.trans eN)
      refine ⟨_, rfl, x, rfl, px', bx, no_text fun H2 p sp ap => ?_⟩
      refine ⟨_, rfl, (by show 2 ≤ sizeLine; decide), fun p2 hp2 => ?_⟩
      obtain ⟨H3, e3, S3, A3⟩ := alloc (o := .lst [.str "text", x]) hp2
      rw [e3]
      refine ⟨.ls (.of (S3 _ _ ap)) (.of A3) rfl (same_pair px.nf), ?_⟩
      exact k _ ((ExtN.of S0).trans ((s1.trans eN).trans (.of (sp.trans S3)))) (Tj.ext (sp.trans S3))
theorem ok_R2 {f cL : Addr} {dV kV doc pm ct oc : Value} {an od : Option Addr} {osl : Array (Option Value)} (lk : K.lookup f = some ⟨oc, od, .func (PySem.W.fnOf "_law_two_texts_right" "_law_two_texts_right" (defArgs sR2) (defBody sR2) (defScope sR2) dV kV doc pm an (.ref cL) ct), osl⟩) (hcd : PySem.W.codeIn K (.ref cL) "_law_two_texts_right" = true) (TB : TabB base mg cL P2) (hP : P1 ≠ P2)
    (M : Kinds K mg E0 CT CN CR) (XT : ErrTxt P K mg "NoText" "text" CT iT) (XN : ErrTxt P K mg "NoNumber" "number" CN iN) (SD : SaidAt K mg fQ dVQ kVQ docQ pmQ cdQ ctQ ocQ anQ odQ oslQ)
    {fA fB fL : Addr} {fdA fdB fdL : FuncData}
    (GA : FnOk P w K mg base (L2.CX P w) 4 fA fdA ["one", "other", "k"] (spTTN CT CN)) (gA : mg "alike" = some (.ref fA)) (kA : PySem.W.keepIn K (.ref fA) = true) (bA : Binds K fdA ["one", "other", "k"] [])
    (GB : FnOk P w K mg base (L2.CX P w) 4 fB fdB ["one", "other", "k"] (spTTN CT CN)) (gB : mg "ways" = some (.ref fB)) (kB : PySem.W.keepIn K (.ref fB) = true) (bB : Binds K fdB ["one", "other", "k"] [])
    (GL : FnOk P w K mg base (L2.CX P w) 4 fL fdL ["one", "other"] (spB2 CT)) (gL : mg "parting" = some (.ref fL)) (kL : PySem.W.keepIn K (.ref fL) = true) (bL : Binds K fdL ["one", "other"] []) :
    FnOk P w K mg base CX0 7 f (PySem.W.fnOf "_law_two_texts_right" "_law_two_texts_right" (defArgs sR2) (defBody sR2) (defScope sR2) dV kV doc pm an (.ref cL) ct) ["_law_odd", "_law_other", "_law_wrong"] (spR2 P1 P2) := by
  refine fn_of lk hcd scR2 (fun vs H Q E h => ?_) (fun A outer s H vs Q E hr h => ?_)
  · obtain ⟨x, y, z, rfl, _⟩ := h
    rfl
  · obtain ⟨x, y, z, rfl, px, bx, py, by', pz, bz, hT, k⟩ := h
    have nd := scR2.nd
    have hu : (A.deeper (PyProof.Rows.envOfC "_law_two_texts_right" (defScope sR2) s.heap.objs.size f (.ref cL))).units + 64 < cLine := hr.units
    have hrX : Room 6 _ := hr
    have hF : ∀ g ∈ [fA, fB], AskAt P w K mg base g (spTTN CT CN) := fun g hg => by
      rcases List.mem_cons.mp hg with rfl | hg
      · exact ⟨_, _, GA, kA, bA⟩
      rw [List.mem_singleton.mp hg]
      exact ⟨_, _, GB, kB, bB⟩
    have gab : goodT isT (.str "ab") := good_z _ (by decide) (by decide +kernel)
    have gem : goodT isT (.str "") := good_z _ (by decide) (by decide +kernel)
    refine ⟨_, PSs.nox (pss_cons (ps_for PassesOwn.never rfl (pi_tup (pe_tup (pa_cons (pe_glob (v := .ref fA) rfl gA rfl) (pa_cons (pe_glob (v := .ref fB) rfl gB rfl) pa_nil)))) (pg_name (i := 3) nd rfl (Or.inr rfl))
      (pss_cons (ps_if (pt_cmpR (op_neS hu) (pe_lamcall (T := T2 P1 P2) (TT := TSay CT CN) (k := 4) rfl SD.g SD.k SD.lk SD.c SD.b scSaid rfl (Or.inl rfl) (said_gives M XT XN) TB rfl (List.mem_cons_of_mem _ List.mem_cons_self) (two_only hP) hrX (lamS_by (sc := defScope sR2) (by decide +kernel)) rfl (fun _ _ _ _ _ => rfl) (fun A outer s H E f c' hr' => pe_callF (i := 3) (sp := spTTN CT CN) (fs := [fA, fB]) hF hr' rfl (by first | exact .inl rfl | exact .inr (.inl rfl) | exact .inr (.inr rfl)) (passes_call (takes_of rfl rfl rfl rfl) fun _ _ _ _ h => h) (pa_cons (pv 0) (pa_cons (pv 1) (pa_cons (pv 2) pa_nil))))) (pe_lst (pa_cons pe_str (pa_cons (pv 0) pa_nil))) (nomark _)) (pss_one (ps_ret pe_bl)) pss_nil)
      (pss_cons (ps_if (pt_cmpR (op_neS hu) (pe_lamcall (T := T2 P1 P2) (TT := TSay CT CN) (k := 4) rfl SD.g SD.k SD.lk SD.c SD.b scSaid rfl (Or.inl rfl) (said_gives M XT XN) TB rfl (List.mem_cons_of_mem _ List.mem_cons_self) (two_only hP) hrX (lamS_by (sc := defScope sR2) (by decide +kernel)) rfl (fun _ _ _ _ _ => rfl) (fun A outer s H E f c' hr' => pe_callF (i := 3) (sp := spTTN CT CN) (fs := [fA, fB]) hF hr' rfl (by first | exact .inl rfl | exact .inr (.inl rfl) | exact .inr (.inr rfl)) (passes_call (takes_of rfl rfl rfl rfl) fun _ _ _ _ h => h) (pa_cons pe_str (pa_cons (pv 1) (pa_cons (pv 2) pa_nil))))) (pe_lst (pa_cons pe_str (pa_cons (pv 1) pa_nil))) (nomark _)) (pss_one (ps_ret pe_bl)) pss_nil)
      (pss_one (ps_if (pt_cmpR (op_neS hu) (pe_lamcall (T := T2 P1 P2) (TT := TSay CT CN) (k := 4) rfl SD.g SD.k SD.lk SD.c SD.b scSaid rfl (Or.inl rfl) (said_gives M XT XN) TB rfl (List.mem_cons_of_mem _ List.mem_cons_self) (two_only hP) hrX (lamS_by (sc := defScope sR2) (by decide +kernel)) rfl (fun _ _ _ _ _ => rfl) (fun A outer s H E f c' hr' => pe_callF (i := 3) (sp := spTTN CT CN) (fs := [fA, fB]) hF hr' rfl (by first | exact .inl rfl | exact .inr (.inl rfl) | exact .inr (.inr rfl)) (passes_call (takes_of rfl rfl rfl rfl) fun _ _ _ _ h => h) (pa_cons pe_str (pa_cons pe_str (pa_cons (pv 2) pa_nil))))) (pe_lst (pa_cons pe_str (pa_cons (pv 2) pa_nil))) (nomark _)) (pss_one (ps_ret pe_bl)) pss_nil)))))
      (pss_cons (ps_if (pt_cmpR (op_neS hu) (pe_lamcall (T := T2 P1 P2) (TT := TSay CT CN) (k := 4) rfl SD.g SD.k SD.lk SD.c SD.b scSaid rfl (Or.inl rfl) (said_gives M XT XN) TB rfl (List.mem_cons_of_mem _ List.mem_cons_self) (two_only hP) hrX (lamS_by (sc := defScope sR2) (by decide +kernel)) rfl (fun _ _ _ _ _ => rfl) (fun A outer s H E f c' hr' => pe_call GL hr' rfl gL kL bL .nil (passes_call (takes_of rfl rfl rfl rfl) fun _ _ _ _ h => h) (pa_cons (pv 0) (pa_cons (pv 1) pa_nil)))) (pe_lst (pa_cons pe_str (pa_cons (pv 0) pa_nil))) (nomark _)) (pss_one (ps_ret pe_bl)) pss_nil)
      (pss_one (ps_ret (pe_cmpR (op_eqS hu) (pe_lamcall (T := T2 P1 P2) (TT := TSay CT CN) (k := 4) rfl SD.g SD.k SD.lk SD.c SD.b scSaid rfl (Or.inl rfl) (said_gives M XT XN) TB rfl (List.mem_cons_of_mem _ List.mem_cons_self) (two_only hP) hrX (lamS_by (sc := defScope sR2) (by decide +kernel)) rfl (fun _ _ _ _ _ => rfl) (fun A outer s H E f c' hr' => pe_call GL hr' rfl gL kL bL .nil (passes_call (takes_of rfl rfl rfl rfl) fun _ _ _ _ h => h) (pa_cons pe_str (pa_cons (pv 1) pa_nil)))) (pe_lst (pa_cons pe_str (pa_cons (pv 1) pa_nil))) (nomark _)))))), ?_⟩
    refine ⟨(by show 2 ≤ sizeLine; decide), fun t zt => ?_⟩
    obtain ⟨H0, e0, S0, A0⟩ := alloc (o := .tup [.ref fA, .ref fB]) zt
    rw [e0]
    refine ⟨t, rfl, ⟨_, .inl (.inl A0)⟩, for_it (walk_tup (K := K) (a := t) (xs := [.ref fA, .ref fB])) (fun i σ H' => ∃ v2 : Option V, σ = [some x, some y, some z, v2] ∧ ExtN H0 H' ∧ Tabs (T2 P1 P2) H') ⟨_, rfl, .refl _, hT.ext S0⟩ (fun i σ H' _ ⟨_, _, s, _⟩ => .inl (.inl (s _ _ A0 fun _ z => by cases z))) ?_ ?_⟩
    · rintro i g σ Hz H1 hi ⟨v2, rfl, s1, Ti⟩ ⟨rfl, hg⟩
      obtain ⟨f', hf', rfl⟩ : ∃ f' ∈ [fA, fB], g = .ref f' := by
        have hm := List.mem_of_getElem? hg
        exact (List.mem_map (f := V.ref) (l := [fA, fB])).mp hm |>.imp fun _ h => ⟨h.1, h.2.symm⟩
      refine ⟨Ti, fun Hj eN Tj => ?_⟩
      have px' := (px.keep S0).keepN (s1.trans eN)
      refine ⟨f', hf', rfl, _, rfl, _, rfl, _, rfl, x, y, z, rfl, px', .inl ⟨bx, no_text fun H2 p sp ap => ?_⟩⟩
      refine ⟨_, rfl, (by show 2 ≤ sizeLine; decide), fun p2 hp2 => ?_⟩
      obtain ⟨H3, e3, S3, A3⟩ := alloc (o := .lst [.str "text", x]) hp2
      rw [e3]
      refine ⟨.ls (.of (S3 _ _ ap)) (.of A3) rfl (same_pair px.nf), _, rfl, ?_⟩
      have n3 : ExtN H0 H3 := (s1.trans eN).trans (.of (sp.trans S3))
      refine ⟨Tj.ext (sp.trans S3), fun Hk eK Tk => ?_⟩
      have py' := (py.keep S0).keepN (n3.trans eK)
      refine ⟨f', hf', rfl, _, rfl, _, rfl, .str "ab", y, z, rfl, .str _, .inr ⟨gab, py', .inl ⟨by', no_text fun H4 p4 s4 a4 => ?_⟩⟩⟩
      refine ⟨_, rfl, (by show 2 ≤ sizeLine; decide), fun p5 hp5 => ?_⟩
      obtain ⟨H5, e5, S5, A5⟩ := alloc (o := .lst [.str "text", y]) hp5
      rw [e5]
      refine ⟨.ls (.of (S5 _ _ a4)) (.of A5) rfl (same_pair py.nf), _, rfl, ?_⟩
      have n5 : ExtN H0 H5 := (n3.trans eK).trans (.of (s4.trans S5))
      refine ⟨Tk.ext (s4.trans S5), fun Hm eM Tm => ?_⟩
      have pz' := (pz.keep S0).keepN (n5.trans eM)
      refine ⟨f', hf', rfl, _, rfl, .str "ab", .str "ab", z, rfl, .str _, .inr ⟨gab, .str _, .inr ⟨gab, pz', bz, no_num fun H6 p6 s6 a6 => ?_⟩⟩⟩
      refine ⟨_, rfl, (by show 2 ≤ sizeLine; decide), fun p7 hp7 => ?_⟩
      obtain ⟨H7, e7, S7, A7⟩ := alloc (o := .lst [.str "number", z]) hp7
      rw [e7]
      refine ⟨.ls (.of (S7 _ _ a6)) (.of A7) rfl (same_pair pz.nf), _, rfl, ?_⟩
      exact ⟨_, rfl, (n5.trans eM).trans (.of (s6.trans S7)), Tm.ext (s6.trans S7)⟩
    · rintro σ H1 ⟨v2, rfl, s1, Ti⟩
      refine ⟨Ti, fun Hj eN Tj => ?_⟩
      have px' := (px.keep S0).keepN (s1.trans eN)
      refine ⟨_, rfl, _, rfl, x, y, rfl, px', .inl ⟨bx, no_text fun H2 p sp ap => ?_⟩⟩
      refine ⟨_, rfl, (by show 2 ≤ sizeLine; decide), fun p2 hp2 => ?_⟩
      obtain ⟨H3, e3, S3, A3⟩ := alloc (o := .lst [.str "text", x]) hp2
      rw [e3]
      refine ⟨.ls (.of (S3 _ _ ap)) (.of A3) rfl (same_pair px.nf), _, rfl, ?_⟩
      have n3 : ExtN H0 H3 := (s1.trans eN).trans (.of (sp.trans S3))
      refine ⟨Tj.ext (sp.trans S3), fun Hk eK Tk => ?_⟩
      have py' := (py.keep S0).keepN (n3.trans eK)
      refine ⟨_, rfl, .str "", y, rfl, .str _, .inr ⟨gem, py', by', no_text fun H4 p4 s4 a4 => ?_⟩⟩
      refine ⟨_, rfl, (by show 2 ≤ sizeLine; decide), fun p5 hp5 => ?_⟩
      obtain ⟨H5, e5, S5, A5⟩ := alloc (o := .lst [.str "text", y]) hp5
      rw [e5]
      refine ⟨.ls (.of (S5 _ _ a4)) (.of A5) rfl (same_pair py.nf), ?_⟩
      exact k _ ((ExtN.of S0).trans ((n3.trans eK).trans (.of (s4.trans S5)))) (Tk.ext (s4.trans S5))
end
end T83

set_option Elab.async false
set_option linter.all false
set_option maxRecDepth 100000
set_option maxHeartbeats 4000000
namespace T83
open PySem L2 EK LamX
theorem cut_ints (ns : List Int) (lo hi : Option Int) : ∃ ms : List Int, cutV (ns.map V.int) lo hi = ms.map V.int ∧ ms.length ≤ ns.length := by
  have h := cutV_length (ns.map V.int) lo hi
  have e : ∃ ms : List Int, cutV (ns.map V.int) lo hi = ms.map V.int := by
    unfold cutV
    rw [← List.map_drop, ← List.map_take]
    exact ⟨_, rfl⟩
  obtain ⟨ms, e⟩ := e
  rw [e, List.length_map, List.length_map] at h
  exact ⟨ms, e, h⟩
theorem ints_at {ns : List Int} {i : Nat} {x : V} (h : (ns.map V.int)[i]? = some x) : ∃ n, ns[i]? = some n ∧ x = .int n := by
  rw [List.getElem?_map] at h
  obtain ⟨n, hn, e⟩ := Option.map_eq_some_iff.mp h
  exact ⟨n, hn, e.symm⟩
section
variable {P : Program} {w : World} {K : PySem.W.Frag} {mg : Str → Option Value} {base : Heap} {P1 P2 : Addr}
theorem ok_law {f fW fO fR1 fR2 : Addr} {fd fdW fdO fdR1 fdR2 : FuncData} (F : Fun K "law" "law" sLaw f fd)
    (GW : FnOk P w K mg base CX0 1 fW fdW ["_law_cell"] spWell) (gW : mg "_law_well" = some (.ref fW)) (kW : PySem.W.keepIn K (.ref fW) = true) (bW : Binds K fdW ["_law_cell"] [])
    (GO : FnOk P w K mg base CX0 2 fO fdO ["_law_well_here", "_law_some"] spOne) (gO : mg "_law_one" = some (.ref fO)) (kO : PySem.W.keepIn K (.ref fO) = true) (bO : Binds K fdO ["_law_well_here", "_law_some"] [])
    (GR1 : FnOk P w K mg base CX0 7 fR1 fdR1 ["_law_odd", "_law_wrong"] (spR1 P1 P2)) (gR1 : mg "_law_one_text_right" = some (.ref fR1)) (kR1 : PySem.W.keepIn K (.ref fR1) = true) (bR1 : Binds K fdR1 ["_law_odd", "_law_wrong"] [])
    (GR2 : FnOk P w K mg base CX0 7 fR2 fdR2 ["_law_odd", "_law_other", "_law_wrong"] (spR2 P1 P2)) (gR2 : mg "_law_two_texts_right" = some (.ref fR2)) (kR2 : PySem.W.keepIn K (.ref fR2) = true) (bR2 : Binds K fdR2 ["_law_odd", "_law_other", "_law_wrong"] []) :
    FnOk P w K mg base CX0 8 f fd ["_law_script"] (spLaw K P1 P2) := by
  refine F.ok scLaw (fun vs H Q E h => ?_) (fun cdv A outer s H vs Q E hr h => ?_)
  · obtain ⟨a, ns, rfl, _⟩ := h
    rfl
  · obtain ⟨a, ns, rfl, hS, hlen, hP1, hP2, k⟩ := h
    have nd := scLaw.nd
    have hrW : Room 1 _ := hr.mono (by decide)
    have hrO : Room 2 _ := hr.mono (by decide)
    have hrR1 : Room 7 _ := hr
    have hrR2 : Room 7 _ := hr
    refine ⟨_, (pss_cons (ps_set (i := 1) nd rfl (Or.inl rfl) (pe_lst (pa_cons pe_non (pa_cons pe_int (pa_cons pe_bl (pa_cons (pe_lst (pa_cons pe_str pa_nil)) (pa_cons (pe_tup (pa_cons pe_str pa_nil)) (pa_cons pe_dnewK (pa_cons pe_str (pa_cons pe_str (pa_cons pe_str (pa_cons (pe_tup pa_nil) (pa_cons pe_int (pa_cons (pe_un un_neg pe_int) pa_nil))))))))))))))
      (pss_cons (ps_set (i := 2) nd rfl (Or.inl rfl) (pe_lst (pa_cons pe_int (pa_cons (pe_un un_neg pe_int) (pa_cons pe_bl (pa_cons pe_bl (pa_cons pe_non (pa_cons pe_str (pa_cons (pe_lst (pa_cons pe_int pa_nil)) (pa_cons (pe_tup (pa_cons pe_int pa_nil)) (pa_cons pe_dnewK (pa_cons (pe_op op_sub pe_int (pe_op op_pow pe_int pe_int)) pa_nil))))))))))))
      (pss_cons (ps_for PassesOwn.never rfl (pi_list (pe_op op_cat (pe_slice sl_list (pv 0) po_none (po_some pe_int)) (pe_lst (pa_cons pe_int pa_nil)))) (pg_name (i := 3) nd rfl (Or.inl rfl)) (pss_cons (ps_set (i := 4) nd rfl (Or.inl rfl) (pe_call GW hrW rfl gW kW bW .nil pass0 (pa_cons (pv 3) pa_nil)))
      (pss_cons (ps_par3 (i := 5) (j := 6) (l := 7) rfl nd rfl rfl rfl (by decide) (by decide) (by decide) rfl rfl rfl (pa_cons (pe_call GO hrO rfl gO kO bO .nil pass0 (pa_cons (pv 4) (pa_cons (pv 1) pa_nil))) (pa_cons (pe_call GO hrO rfl gO kO bO .nil pass0 (pa_cons (pv 4) (pa_cons (pv 1) pa_nil))) (pa_cons (pe_call GO hrO rfl gO kO bO .nil pass0 (pa_cons (pv 4) (pa_cons (pv 2) pa_nil))) pa_nil))) (by rfl))
      (pss_one (ps_if (PW.pt (pw_or (pt_not (pt_val (pe_call GR1 hrR1 rfl gR1 kR1 bR1 .nil pass0 (pa_cons (pv 5) (pa_cons (pv 7) pa_nil))))) (pw_or1 (pt_not (pt_val (pe_call GR2 hrR2 rfl gR2 kR2 bR2 .nil pass0 (pa_cons (pv 5) (pa_cons (pv 6) (pa_cons (pv 7) pa_nil))))))))) (pss_one (ps_ret pe_bl)) pss_nil)))))
      (pss_one (ps_ret pe_bl))))), ?_⟩
    refine ⟨(by show 1 ≤ sizeLine; decide), fun q1 y1 => ?_⟩
    obtain ⟨G1, g1, U1, B1⟩ := alloc (o := .lst [.str "a"]) y1
    rw [g1]
    refine ⟨(by show 1 ≤ sizeLine; decide), fun q2 y2 => ?_⟩
    obtain ⟨G2, g2, U2, B2⟩ := alloc (o := .tup [.str "a"]) y2
    rw [g2]
    intro q3 y3
    obtain ⟨G3, g3, U3, B3⟩ := alloc (o := .dK []) y3
    rw [g3]
    refine ⟨(by show 0 ≤ sizeLine; decide), fun q4 y4 => ?_⟩
    obtain ⟨G4, g4, U4, B4⟩ := alloc (o := .tup []) y4
    rw [g4]
    refine ⟨_, rfl, (by show 12 ≤ sizeLine; decide), fun q5 y5 => ?_⟩
    obtain ⟨G5, g5, U5, B5⟩ := alloc (o := .lst [.non, .int 7, .bl true, .ref q1, .ref q2, .ref q3, .str "Ab", .str "a1", .str "a$", .ref q4, .int 0, .int (-1)]) y5
    rw [g5]
    refine ⟨_, rfl, (by show 1 ≤ sizeLine; decide), fun r1 w1 => ?_⟩
    obtain ⟨R1, f1, V1, E1⟩ := alloc (o := .lst [.int 1]) w1
    rw [f1]
    refine ⟨(by show 1 ≤ sizeLine; decide), fun r2 w2 => ?_⟩
    obtain ⟨R2, f2, V2, E2⟩ := alloc (o := .tup [.int 1]) w2
    rw [f2]
    intro r3 w3
    obtain ⟨R3, f3, V3, E3⟩ := alloc (o := .dK []) w3
    rw [f3]
    refine ⟨_, _, rfl, rfl, ⟨by decide, by decide, by decide⟩, _, _, rfl, rfl, (by show 10 ≤ sizeLine; decide), fun r4 w4 => ?_⟩
    obtain ⟨R4, f4, V4, E4⟩ := alloc (o := .lst [V.int 0, .int (-1), .bl true, .bl false, .non, .str "1", .ref r1, .ref r2, .ref r3, .int (0 - 10 ^ (30 : Int).toNat)]) w4
    have f4' : upd R3 r4 (.lst [V.int 0, .int (-1), .bl true, .bl false, .non, .str "1", .ref r1, .ref r2, .ref r3, .int (0 - 10 ^ (30 : Int).toNat)]) = R4 := f4
    simp only [f4']
    have things : ∀ x ∈ [V.non, .int 7, .bl true, .ref q1, .ref q2, .ref q3, .str "Ab", .str "a1", .str "a$", .ref q4, .int 0, .int (-1)], Pl R4 x ∧ badT isT x := by
        intro x hx
        rcases List.mem_cons.mp hx with rfl | hx
        · exact ⟨.non, .inl rfl⟩
        rcases List.mem_cons.mp hx with rfl | hx
        · exact ⟨.int _, .inl rfl⟩
        rcases List.mem_cons.mp hx with rfl | hx
        · exact ⟨.bl _, .inl rfl⟩
        rcases List.mem_cons.mp hx with rfl | hx
        · exact ⟨.lst ((((((((U2.trans U3).trans U4).trans U5).trans V1).trans V2).trans V3).trans V4) _ _ B1), .inl rfl⟩
        rcases List.mem_cons.mp hx with rfl | hx
        · exact ⟨.tup (((((((U3.trans U4).trans U5).trans V1).trans V2).trans V3).trans V4) _ _ B2), .inl rfl⟩
        rcases List.mem_cons.mp hx with rfl | hx
        · exact ⟨.dct ((((((U4.trans U5).trans V1).trans V2).trans V3).trans V4) _ _ B3), .inl rfl⟩
        rcases List.mem_cons.mp hx with rfl | hx
        · exact ⟨.str _, .inr ⟨_, rfl, by decide, by decide +kernel⟩⟩
        rcases List.mem_cons.mp hx with rfl | hx
        · exact ⟨.str _, .inr ⟨_, rfl, by decide, by decide +kernel⟩⟩
        rcases List.mem_cons.mp hx with rfl | hx
        · exact ⟨.str _, .inr ⟨_, rfl, by decide, by decide +kernel⟩⟩
        rcases List.mem_cons.mp hx with rfl | hx
        · exact ⟨.tup (((((U5.trans V1).trans V2).trans V3).trans V4) _ _ B4), .inl rfl⟩
        rcases List.mem_cons.mp hx with rfl | hx
        · exact ⟨.int _, .inl rfl⟩
        rcases List.mem_cons.mp hx with rfl | hx
        · exact ⟨.int _, .inl rfl⟩
        cases hx
    have nums : ∀ x ∈ [V.int 0, .int (-1), .bl true, .bl false, .non, .str "1", .ref r1, .ref r2, .ref r3, .int (0 - 10 ^ (30 : Int).toNat)], Pl R4 x ∧ numB x 1 = false := by
        intro x hx
        rcases List.mem_cons.mp hx with rfl | hx
        · exact ⟨.int _, by decide⟩
        rcases List.mem_cons.mp hx with rfl | hx
        · exact ⟨.int _, by decide⟩
        rcases List.mem_cons.mp hx with rfl | hx
        · exact ⟨.bl _, rfl⟩
        rcases List.mem_cons.mp hx with rfl | hx
        · exact ⟨.bl _, rfl⟩
        rcases List.mem_cons.mp hx with rfl | hx
        · exact ⟨.non, rfl⟩
        rcases List.mem_cons.mp hx with rfl | hx
        · exact ⟨.str _, rfl⟩
        rcases List.mem_cons.mp hx with rfl | hx
        · exact ⟨.lst (((V2.trans V3).trans V4) _ _ E1), rfl⟩
        rcases List.mem_cons.mp hx with rfl | hx
        · exact ⟨.tup ((V3.trans V4) _ _ E2), rfl⟩
        rcases List.mem_cons.mp hx with rfl | hx
        · exact ⟨.dct (V4 _ _ E3), rfl⟩
        rcases List.mem_cons.mp hx with rfl | hx
        · exact ⟨.int _, by decide⟩
        cases hx
    have S0 : Same H R4 := ((((((((U1.trans U2).trans U3).trans U4).trans U5).trans V1).trans V2).trans V3).trans V4)
    have B5' : R4 q5 = some (.lst [V.non, .int 7, .bl true, .ref q1, .ref q2, .ref q3, .str "Ab", .str "a1", .str "a$", .ref q4, .int 0, .int (-1)]) := (((V1.trans V2).trans V3).trans V4) _ _ B5
    obtain ⟨ths, eth, lth⟩ : ∃ l, l = [V.non, .int 7, .bl true, .ref q1, .ref q2, .ref q3, .str "Ab", .str "a1", .str "a$", .ref q4, .int 0, .int (-1)] ∧ l.length = 12 := ⟨_, rfl, rfl⟩
    obtain ⟨nus, enu, lnu⟩ : ∃ l, l = [V.int 0, .int (-1), .bl true, .bl false, .non, .str "1", .ref r1, .ref r2, .ref r3, .int (0 - 10 ^ (30 : Int).toNat)] ∧ l.length = 10 := ⟨_, rfl, rfl⟩
    rw [← eth] at things B5'
    rw [← enu] at nums E4
    have hS0 : SqL K R4 a (ns.map V.int) := by
      rcases hS with (h | ⟨o, h⟩) | h
      · exact .inl (.inl (S0 _ _ h))
      · exact .inl (.inr ⟨o, S0 _ _ h⟩)
      · exact .inr h
    obtain ⟨ms, hms, hml⟩ := cut_ints ns none (some 4)
    refine ⟨_, rfl, _, rfl, a, _, rfl, hS0, fun p0 z0 => ?_⟩
    rw [hms]
    obtain ⟨H1, e1, S1, A1⟩ := alloc (o := .lst (ms.map V.int)) z0
    rw [e1]
    refine ⟨(by show 1 ≤ sizeLine; decide), fun p1 z1 => ?_⟩
    obtain ⟨H2, e2, S2, A2⟩ := alloc (o := .lst [.int 0]) z1
    rw [e2]
    refine ⟨p0, p1, _, _, rfl, rfl, S2 _ _ A1, A2, ?_, fun p2 z2 => ?_⟩
    · rw [List.length_map]
      exact Nat.le_trans (Nat.add_le_add_right (Nat.le_trans hml hlen) 1) (by show 64 ≤ sizeLine; decide)
    have em : ms.map V.int ++ [V.int 0] = (ms ++ [0]).map V.int := by rw [List.map_append]; rfl
    rw [em]
    obtain ⟨H3, e3, S3, A3⟩ := alloc (o := .lst ((ms ++ [0]).map V.int)) z2
    rw [e3]
    have S03 : Same R4 H3 := (S1.trans S2).trans S3
    have hT3 : Tabs (T2 P1 P2) H3 := fun p hp => by
      rcases List.mem_cons.mp hp with rfl | hp
      · exact TabS.nil (S03 _ _ (S0 _ _ hP1))
      · rw [List.mem_singleton.mp hp]
        exact TabS.nil (S03 _ _ (S0 _ _ hP2))
    have hl1 := S03 _ _ B5'
    have hl2 := S03 _ _ E4
    refine ⟨p2, rfl, ⟨_, .of A3⟩, for_list (K := K) (a := p2) (xs := (ms ++ [0]).map V.int) (fun i σ H' => ∃ v3 v4 v5 v6 v7 : Option V, σ = [some (.ref a), some (.ref q5), some (.ref r4), v3, v4, v5, v6, v7] ∧ ExtN H3 H' ∧ Tabs (T2 P1 P2) H') ⟨none, none, none, none, none, rfl, .refl _, hT3⟩ (fun i σ H' _ ⟨_, _, _, _, _, _, s, _⟩ => .of (s _ _ A3 fun _ z => by cases z)) ?_ ?_⟩
    · rintro i y σ H4 hi ⟨v3, v4, v5, v6, v7, rfl, s4, T4⟩
      obtain ⟨z, _, rfl⟩ := ints_at hi
      refine ⟨_, rfl, z, rfl, fun wl H5 nwl hw s5 => ?_⟩
      have g1 := s4 _ _ hl1 (fun _ z => by cases z)
      have g2 := s4 _ _ hl2 (fun _ z => by cases z)
      have n1 : q5 ≠ wl := ne_of_none g1 nwl
      have n2 : r4 ≠ wl := ne_of_none g2 nwl
      refine ⟨_, rfl, _, rfl, wl, q5, 0, ths, rfl, hw, by decide, s5 _ _ g1, n1, by omega, by omega, fun x H6 hx hw6 kb6 => ?_⟩
      refine ⟨_, rfl, _, rfl, wl, q5, 0 + 1, ths, rfl, hw6, by decide, kb6 _ _ (s5 _ _ g1) n1, n1, by omega, by omega, fun y H7 hy hw7 kb7 => ?_⟩
      refine ⟨_, rfl, _, rfl, wl, r4, 0 + 1 + 1, nus, rfl, hw7, by decide, kb7 _ _ (kb6 _ _ (s5 _ _ g2) n2) n2, n2, by omega, by omega, fun u H8 hz hw8 kb8 => ?_⟩
      have keep : ∀ x, Pl R4 x → Pl H8 x := fun x p => ((((p.keep S03).keepN s4).keep s5).keepW hw hw6 kb6 |>.keepW hw6 hw7 kb7).keepW hw7 hw8 kb8
      have T8 : Tabs (T2 P1 P2) H8 := ((((T4.ext s5).keepW hw kb6)).keepW hw6 kb7).keepW hw7 kb8
      have s8 : ExtN H3 H8 := fun b o e nt => by
        have e4 := s4 _ _ e nt
        have n := ne_of_none e4 nwl
        exact kb8 _ _ (kb7 _ _ (kb6 _ _ (s5 _ _ e4) n) n) n
      obtain ⟨px, bx⟩ := things x hx
      obtain ⟨py, by'⟩ := things y hy
      obtain ⟨pz, bz⟩ := nums u hz
      refine ⟨x, y, u, rfl, _, rfl, _, rfl, x, u, rfl, keep x px, bx, keep u pz, bz, T8, fun H9 e9 T9 => ?_⟩
      refine ⟨true, rfl, _, rfl, _, rfl, _, rfl, x, y, u, rfl, (keep x px).keepN e9, bx, (keep y py).keepN e9, by', (keep u pz).keepN e9, bz, T9, fun Ha ea Ta => ?_⟩
      exact ⟨true, rfl, _, _, _, _, _, rfl, (s8.trans e9).trans ea, Ta⟩
    · rintro σ H9 ⟨v3, v4, v5, v6, v7, rfl, s4, T4⟩
      exact k H9
end
end T83

set_option Elab.async false
set_option linter.all false
set_option maxRecDepth 100000
set_option maxHeartbeats 4000000
/-! ErrEnd: an error class's facts, from what the top has written. -/
namespace EK
open PySem PySem.W L2
def errB (K : Frag) (C fI : Addr) (f : Str) : Bool :=
  xfB K C && (decide (findIn K (.ref C) "__setattr__" = some (some (.builtin "object.__setattr__"))) && (decide (findIn K (.ref C) f = some none) && (decide (typeIn K (.ref fI) = some (.type "function")) && (keepIn K (.ref C) &&
  (decide (typeIn K (.ref C) = some (.type "type")) && (decide (exmOne K (.ref C) (.ref C) = some true) && (decide (subIn K (.ref C) (.type "ValueError") = some true) && (decide (ks_superIn K C C "__init__" = some (some (.builtin "ValueError.__init__"))) &&
  (decide (mroIn K C (.ref C) = some true) && (decide (findIn K (.ref C) "__class__" = some (some (.builtin "object.__class__"))) && decide (mroIn K C (.type "object") = some true)))))))))))
theorem and2 {a b : Bool} (h : (a && b) = true) : a = true ∧ b = true := Bool.and_eq_true_iff.mp h
theorem err_mk {P : Program} {K : Frag} {h : Heap} {mg : Str → Option Value} {x f : Str} {C fI N cda cc : Addr} (X : K.In h) (G : h.Ns mainGlobals mg)
    {nm q qn msg file : Str} {bs bm : List Value} {sn : List Str} {sub : List Value} {ab : Bool} {col : Option Bool} {dd od an cdd cld : Option Addr} {m0 m1 m2 m3 m5 : Option Value} {oc doc pm ct ccl cl : Value} {osl ccs csl : Array (Option Value)} {vs : Array Value} {tf : Tok}
    {p1 p2 a1 a2 a3 a4 a5 a6 b1 b2 b3 b4 : Pos}
    (aC : nsIn K mainGlobals x = some (some (.ref C))) (xL : K.lookup C = some (excClassObj nm q C N bs bm true sn sub ab col dd m0 m1 m2 m3 m5 "ValueError.__new__")) (rv : HandSPX.refsVE bm = true)
    (iC : findIn K (.ref C) "__init__" = some (some (.ref fI)))
    (l1 : K.lookup fI = some ⟨oc, od, .func (ksFn "__init__" qn (eArgs f p1 p2) (eBody f msg a1 a2 a3 a4 a5 a6 b1 b2 b3 b4) (eScope f) .none .none doc pm an (.ref cda) ct cc), osl⟩) (c1 : codeIn K (.ref cda) qn = true)
    (bd : ∀ u v : Value, bindArgs (ksFn "__init__" qn (eArgs f p1 p2) (eBody f msg a1 a2 a3 a4 a5 a6 b1 b2 b3 b4) (eScope f) .none .none doc pm an (.ref cda) ct cc) ⟨[u, v], []⟩ = pure [(("self" : Str), u), (f, v)])
    (sc : ∀ L : Addr, SupCall a1 a2 a3 a4 a5 msg (callEnv (ksFn "__init__" qn (eArgs f p1 p2) (eBody f msg a1 a2 a3 a4 a5 a6 b1 b2 b3 b4) (eScope f) .none .none doc pm an (.ref cda) ct cc) L fI))
    (cd : K.lookup cda = some ⟨ccl, cdd, .fields vs, ccs⟩) (vf : vs[2]? = some (.str file tf)) (pf : ((P.main.file : Str) == file) = true) (cL : K.lookup cc = some ⟨cl, cld, .cell (some (.ref C)), csl⟩)
    (eB : errB K C fI f = true) (ho : nsIn K cStatics "thirdparty.any" = some none) (su : nsIn K mainGlobals "super" = some none) (fok : f ≠ "self" ∧ f ≠ "__class__" ∧ f ≠ "super" ∧ f ≠ "__debug__") (top : (P.main.scope.names.lookup ("super" : Str)).isSome = false) :
    ErrTxt P K mg x f C fI := by
  obtain ⟨h1, eB⟩ := and2 eB
  obtain ⟨h2, eB⟩ := and2 eB
  obtain ⟨h3, eB⟩ := and2 eB
  obtain ⟨h4, eB⟩ := and2 eB
  obtain ⟨h5, eB⟩ := and2 eB
  obtain ⟨h6, eB⟩ := and2 eB
  obtain ⟨h7, eB⟩ := and2 eB
  obtain ⟨h8, eB⟩ := and2 eB
  obtain ⟨h9, eB⟩ := and2 eB
  obtain ⟨h10, eB⟩ := and2 eB
  have T := xfB_ok h1
  exact { gC := mg_of X G aC, cls := ⟨nm, q, N, bs, bm, sn, sub, ab, col, dd, m0, m1, m2, m3, m5, xL, rv⟩, sa := of_decide_eq_true h2, ga := T.ga, gg := T.gg, noN := of_decide_eq_true h3, iC := iC, tC := of_decide_eq_true h4, kC := h5, exC := T.exC,
          tyC := of_decide_eq_true h6, hdC := T.hdC, te := of_decide_eq_true h7, hB := of_decide_eq_true h8, si := of_decide_eq_true h9, ho := ho, su := mg_none_of X G su, mC := of_decide_eq_true h10, fok := fok, top := top,
          fn := ⟨oc, od, qn, msg, doc, pm, an, cda, cc, ct, osl, p1, p2, a1, a2, a3, a4, a5, a6, b1, b2, b3, b4, l1, c1, bd, sc, ⟨ccl, cdd, ccs, vs, file, tf, cd, vf, pf⟩, ⟨cl, cld, csl, cL⟩⟩ }
theorem excC_of {K : Frag} {C fI : Addr} {f : Str} (eB : errB K C fI f = true) (hn : specialIn K (.builtin "object.__class__") "__get__" = some (some (.builtin "getset_descriptor.__get__"))) (ht : takesIn K (.builtin "object.__class__") = some true) : ExcC K C := by
  obtain ⟨h1, eB⟩ := and2 eB
  obtain ⟨h2, eB⟩ := and2 eB
  obtain ⟨h3, eB⟩ := and2 eB
  obtain ⟨h4, eB⟩ := and2 eB
  obtain ⟨h5, eB⟩ := and2 eB
  obtain ⟨h6, eB⟩ := and2 eB
  obtain ⟨h7, eB⟩ := and2 eB
  obtain ⟨h8, eB⟩ := and2 eB
  obtain ⟨h9, eB⟩ := and2 eB
  obtain ⟨h10, eB⟩ := and2 eB
  obtain ⟨h11, h12⟩ := and2 eB
  have T := xfB_ok h1
  exact ⟨T.ga, T.gg, T.exC, T.hdC, of_decide_eq_true h11, hn, ht, of_decide_eq_true h12⟩
/-- which class is which, told apart -/
def kindsB (K : Frag) (E : Addr) (Cs : List Addr) : Bool :=
  (Cs.zipIdx.all fun p => Cs.zipIdx.all fun q => decide (kitOne K (.ref p.1) (.ref q.1) = some (decide (p.2 = q.2)))) && (Cs.all fun C => decide (kitOne K (.ref C) (.ref E) = some true) && decide (kitOne K (.ref C) (.type "ValueError") = some true))
theorem kinds_kt {K : Frag} {E : Addr} {Cs : List Addr} (h : kindsB K E Cs = true) (i j : Nat) (C D : Addr) (h1 : Cs[i]? = some C) (h2 : Cs[j]? = some D) : kitOne K (.ref C) (.ref D) = some (decide (i = j)) := by
  obtain ⟨h, _⟩ := and2 h
  have q := List.all_eq_true.mp h (C, i) (List.mk_mem_zipIdx_iff_getElem?.mpr h1)
  have q := List.all_eq_true.mp q (D, j) (List.mk_mem_zipIdx_iff_getElem?.mpr h2)
  exact of_decide_eq_true q
theorem kinds_ke {K : Frag} {E : Addr} {Cs : List Addr} (h : kindsB K E Cs = true) (C : Addr) (hC : C ∈ Cs) : kitOne K (.ref C) (.ref E) = some true ∧ kitOne K (.ref C) (.type "ValueError") = some true := by
  obtain ⟨_, h⟩ := and2 h
  obtain ⟨a, b⟩ := and2 (List.all_eq_true.mp h C hC)
  exact ⟨of_decide_eq_true a, of_decide_eq_true b⟩
end EK

set_option Elab.async false
set_option linter.all false
set_option maxRecDepth 100000
set_option maxHeartbeats 4000000
namespace T83
open PySem L2 EK LamX
theorem all_mk {l : PySem.W.OpenLaw} {w : World} {K : PySem.W.Frag} {h : Heap} {mg : Str → Option Value} {fa C1 i1 C2 i2 E0 CR : Addr} {t1 : Tok} (X : K.In h) (G : h.Ns mainGlobals mg) (hfa : mg "law" = some (.ref fa))
    {fX : Addr} {odX anX : Option Addr} {slX : Array (Option Value)} {ocX kVX dcX pmX cdX ctX : Value}
    {fN : Addr} {odN anN : Option Addr} {slN : Array (Option Value)} {ocN kVN dcN pmN cdN ctN : Value}
    {fCT : Addr} {odCT anCT : Option Addr} {slCT : Array (Option Value)} {ocCT kVCT dcCT pmCT cdCT ctCT : Value}
    {fCN : Addr} {odCN anCN : Option Addr} {slCN : Array (Option Value)} {ocCN kVCN dcCN pmCN cdCN ctCN : Value}
    {fA : Addr} {odA anA : Option Addr} {slA : Array (Option Value)} {ocA kVA dcA pmA cdA ctA : Value}
    {fB : Addr} {odB anB : Option Addr} {slB : Array (Option Value)} {ocB kVB dcB pmB cdB ctB : Value}
    {fC : Addr} {odC anC : Option Addr} {slC : Array (Option Value)} {ocC kVC dcC pmC cdC ctC : Value}
    {fD : Addr} {odD anD : Option Addr} {slD : Array (Option Value)} {ocD kVD dcD pmD cdD ctD : Value}
    {fL : Addr} {odL anL : Option Addr} {slL : Array (Option Value)} {ocL kVL dcL pmL cdL ctL : Value}
    {fE : Addr} {odE anE : Option Addr} {slE : Array (Option Value)} {ocE kVE dcE pmE cdE ctE : Value}
    {fF : Addr} {odF anF : Option Addr} {slF : Array (Option Value)} {ocF kVF dcF pmF cdF ctF : Value}
    {fP : Addr} {odP anP : Option Addr} {slP : Array (Option Value)} {ocP kVP dcP pmP cdP ctP : Value}
    {fW : Addr} {odW anW : Option Addr} {slW : Array (Option Value)} {ocW kVW dcW pmW cdW ctW : Value}
    {fDR : Addr} {odDR anDR : Option Addr} {slDR : Array (Option Value)} {ocDR kVDR dcDR pmDR cdDR ctDR : Value}
    {fO : Addr} {odO anO : Option Addr} {slO : Array (Option Value)} {ocO kVO dcO pmO cdO ctO : Value}
    {fQ : Addr} {odQ anQ : Option Addr} {slQ : Array (Option Value)} {ocQ kVQ dcQ pmQ cdQ ctQ : Value}
    {fR1 : Addr} {odR1 anR1 : Option Addr} {slR1 : Array (Option Value)} {ocR1 kVR1 dcR1 pmR1  ctR1 : Value} {cR1a PR1a : Addr}
    {fR2 : Addr} {odR2 anR2 : Option Addr} {slR2 : Array (Option Value)} {ocR2 kVR2 dcR2 pmR2  ctR2 : Value} {cR2a PR2a : Addr}
    {fZ : Addr} {odZ anZ : Option Addr} {slZ : Array (Option Value)} {ocZ kVZ dcZ pmZ cdZ ctZ : Value}
    (T1 : ErrTxt l.prog K mg "NoText" "text" C1 i1) (T2 : ErrTxt l.prog K mg "NoNumber" "number" C2 i2) (haT : PySem.W.findIn K (.ref C1) "__class__" = some (some (.builtin "object.__class__"))) (haN : PySem.W.findIn K (.ref C2) "__class__" = some (some (.builtin "object.__class__"))) (hn : PySem.W.specialIn K (.builtin "object.__class__") "__get__" = some (some (.builtin "getset_descriptor.__get__"))) (ht : PySem.W.takesIn K (.builtin "object.__class__") = some true) (hmT : PySem.W.mroIn K C1 (.type "object") = some true) (hmN : PySem.W.mroIn K C2 (.type "object") = some true) (t0 : PySem.W.kitOne K (.ref C1) (.ref E0) = some true) (tN : PySem.W.kitOne K (.ref C1) (.ref C2) = some false) (tR : PySem.W.kitOne K (.ref C1) (.ref CR) = some false) (n0 : PySem.W.kitOne K (.ref C2) (.ref E0) = some true) (nT : PySem.W.kitOne K (.ref C2) (.ref C1) = some false) (nR : PySem.W.kitOne K (.ref C2) (.ref CR) = some false) (e11 : PySem.W.exmOne K (.ref C1) (.ref C1) = some true) (e21 : PySem.W.exmOne K (.ref C2) (.ref C1) = some false) (e22 : PySem.W.exmOne K (.ref C2) (.ref C2) = some true) (hPne : decide (PR1a = PR2a) = false)
    (aX : PySem.W.nsIn K mainGlobals "is_text" = some (some (.ref fX))) (lX : K.lookup fX = some ⟨ocX, odX, .func (PySem.W.fnOf "is_text" "is_text" (defArgs sIsText) (defBody sIsText) (defScope sIsText) .none kVX dcX pmX anX cdX ctX), slX⟩) (cX : PySem.W.codeIn K cdX "is_text" = true) (kX : PySem.W.keepIn K (.ref fX) = true)
    (aN : PySem.W.nsIn K mainGlobals "is_number" = some (some (.ref fN))) (lN : K.lookup fN = some ⟨ocN, odN, .func (PySem.W.fnOf "is_number" "is_number" (defArgs sIsNum) (defBody sIsNum) (defScope sIsNum) .none kVN dcN pmN anN cdN ctN), slN⟩) (cN : PySem.W.codeIn K cdN "is_number" = true) (kN : PySem.W.keepIn K (.ref fN) = true)
    (aCT : PySem.W.nsIn K mainGlobals "check_text" = some (some (.ref fCT))) (lCT : K.lookup fCT = some ⟨ocCT, odCT, .func (PySem.W.fnOf "check_text" "check_text" (defArgs sCkText) (defBody sCkText) (defScope sCkText) .none kVCT dcCT pmCT anCT cdCT ctCT), slCT⟩) (cCT : PySem.W.codeIn K cdCT "check_text" = true) (kCT : PySem.W.keepIn K (.ref fCT) = true)
    (aCN : PySem.W.nsIn K mainGlobals "check_number" = some (some (.ref fCN))) (lCN : K.lookup fCN = some ⟨ocCN, odCN, .func (PySem.W.fnOf "check_number" "check_number" (defArgs sCkN) (defBody sCkN) (defScope sCkN) .none kVCN dcCN pmCN anCN cdCN ctCN), slCN⟩) (cCN : PySem.W.codeIn K cdCN "check_number" = true) (kCN : PySem.W.keepIn K (.ref fCN) = true)
    (aA : PySem.W.nsIn K mainGlobals "parts_of" = some (some (.ref fA))) (lA : K.lookup fA = some ⟨ocA, odA, .func (PySem.W.fnOf "parts_of" "parts_of" (defArgs sPartsOf) (defBody sPartsOf) (defScope sPartsOf) .none kVA dcA pmA anA cdA ctA), slA⟩) (cA : PySem.W.codeIn K cdA "parts_of" = true) (kA : PySem.W.keepIn K (.ref fA) = true)
    (aB : PySem.W.nsIn K mainGlobals "alike_number" = some (some (.ref fB))) (lB : K.lookup fB = some ⟨ocB, odB, .func (PySem.W.fnOf "alike_number" "alike_number" (defArgs sAlikeNumber) (defBody sAlikeNumber) (defScope sAlikeNumber) .none kVB dcB pmB anB cdB ctB), slB⟩) (cB : PySem.W.codeIn K cdB "alike_number" = true) (kB : PySem.W.keepIn K (.ref fB) = true)
    (aC : PySem.W.nsIn K mainGlobals "another" = some (some (.ref fC))) (lC : K.lookup fC = some ⟨ocC, odC, .func (PySem.W.fnOf "another" "another" (defArgs sAnother) (defBody sAnother) (defScope sAnother) .none kVC dcC pmC anC cdC ctC), slC⟩) (cC : PySem.W.codeIn K cdC "another" = true) (kC : PySem.W.keepIn K (.ref fC) = true)
    (aD : PySem.W.nsIn K mainGlobals "exchange" = some (some (.ref fD))) (lD : K.lookup fD = some ⟨ocD, odD, .func (PySem.W.fnOf "exchange" "exchange" (defArgs sExchange) (defBody sExchange) (defScope sExchange) .none kVD dcD pmD anD cdD ctD), slD⟩) (cD : PySem.W.codeIn K cdD "exchange" = true) (kD : PySem.W.keepIn K (.ref fD) = true)
    (aL : PySem.W.nsIn K mainGlobals "alone" = some (some (.ref fL))) (lL : K.lookup fL = some ⟨ocL, odL, .func (PySem.W.fnOf "alone" "alone" (defArgs sAlone) (defBody sAlone) (defScope sAlone) .none kVL dcL pmL anL cdL ctL), slL⟩) (cL : PySem.W.codeIn K cdL "alone" = true) (kL : PySem.W.keepIn K (.ref fL) = true)
    (aE : PySem.W.nsIn K mainGlobals "alike" = some (some (.ref fE))) (lE : K.lookup fE = some ⟨ocE, odE, .func (PySem.W.fnOf "alike" "alike" (defArgs sAlike) (defBody sAlike) (defScope sAlike) .none kVE dcE pmE anE cdE ctE), slE⟩) (cE : PySem.W.codeIn K cdE "alike" = true) (kE : PySem.W.keepIn K (.ref fE) = true)
    (aF : PySem.W.nsIn K mainGlobals "ways" = some (some (.ref fF))) (lF : K.lookup fF = some ⟨ocF, odF, .func (PySem.W.fnOf "ways" "ways" (defArgs sWays) (defBody sWays) (defScope sWays) .none kVF dcF pmF anF cdF ctF), slF⟩) (cF : PySem.W.codeIn K cdF "ways" = true) (kF : PySem.W.keepIn K (.ref fF) = true)
    (aP : PySem.W.nsIn K mainGlobals "parting" = some (some (.ref fP))) (lP : K.lookup fP = some ⟨ocP, odP, .func (PySem.W.fnOf "parting" "parting" (defArgs sParting) (defBody sParting) (defScope sParting) .none kVP dcP pmP anP cdP ctP), slP⟩) (cP : PySem.W.codeIn K cdP "parting" = true) (kP : PySem.W.keepIn K (.ref fP) = true)
    (aW : PySem.W.nsIn K mainGlobals "_law_well" = some (some (.ref fW))) (lW : K.lookup fW = some ⟨ocW, odW, .func (PySem.W.fnOf "_law_well" "_law_well" (defArgs sWell) (defBody sWell) (defScope sWell) .none kVW dcW pmW anW cdW ctW), slW⟩) (cW : PySem.W.codeIn K cdW "_law_well" = true) (kW : PySem.W.keepIn K (.ref fW) = true)
    (aDR : PySem.W.nsIn K mainGlobals "_law_draw" = some (some (.ref fDR))) (lDR : K.lookup fDR = some ⟨ocDR, odDR, .func (PySem.W.fnOf "_law_draw" "_law_draw" (defArgs sDraw) (defBody sDraw) (defScope sDraw) .none kVDR dcDR pmDR anDR cdDR ctDR), slDR⟩) (cDR : PySem.W.codeIn K cdDR "_law_draw" = true) (kDR : PySem.W.keepIn K (.ref fDR) = true)
    (aO : PySem.W.nsIn K mainGlobals "_law_one" = some (some (.ref fO))) (lO : K.lookup fO = some ⟨ocO, odO, .func (PySem.W.fnOf "_law_one" "_law_one" (defArgs sOne) (defBody sOne) (defScope sOne) .none kVO dcO pmO anO cdO ctO), slO⟩) (cO : PySem.W.codeIn K cdO "_law_one" = true) (kO : PySem.W.keepIn K (.ref fO) = true)
    (aQ : PySem.W.nsIn K mainGlobals "_law_said" = some (some (.ref fQ))) (lQ : K.lookup fQ = some ⟨ocQ, odQ, .func (PySem.W.fnOf "_law_said" "_law_said" (defArgs sSaid) (defBody sSaid) (defScope sSaid) .none kVQ dcQ pmQ anQ cdQ ctQ), slQ⟩) (cQ : PySem.W.codeIn K cdQ "_law_said" = true) (kQ : PySem.W.keepIn K (.ref fQ) = true)
    (aR1 : PySem.W.nsIn K mainGlobals "_law_one_text_right" = some (some (.ref fR1))) (lR1 : K.lookup fR1 = some ⟨ocR1, odR1, .func (PySem.W.fnOf "_law_one_text_right" "_law_one_text_right" (defArgs sR1) (defBody sR1) (defScope sR1) .none kVR1 dcR1 pmR1 anR1 (.ref cR1a) ctR1), slR1⟩) (cR1 : PySem.W.codeIn K (.ref cR1a) "_law_one_text_right" = true) (kR1 : PySem.W.keepIn K (.ref fR1) = true)
    (aR2 : PySem.W.nsIn K mainGlobals "_law_two_texts_right" = some (some (.ref fR2))) (lR2 : K.lookup fR2 = some ⟨ocR2, odR2, .func (PySem.W.fnOf "_law_two_texts_right" "_law_two_texts_right" (defArgs sR2) (defBody sR2) (defScope sR2) .none kVR2 dcR2 pmR2 anR2 (.ref cR2a) ctR2), slR2⟩) (cR2 : PySem.W.codeIn K (.ref cR2a) "_law_two_texts_right" = true) (kR2 : PySem.W.keepIn K (.ref fR2) = true)
    (aZ : PySem.W.nsIn K mainGlobals "law" = some (some (.ref fZ))) (lZ : K.lookup fZ = some ⟨ocZ, odZ, .func (PySem.W.fnOf "law" "law" (defArgs sLaw) (defBody sLaw) (defScope sLaw) .none kVZ dcZ pmZ anZ cdZ ctZ), slZ⟩) (cZ : PySem.W.codeIn K cdZ "law" = true) (kZ : PySem.W.keepIn K (.ref fZ) = true)
    (hTabR1 : h.get? PR1a = some { cls := .none, data := .fields #[] }) (nTR1 : K.lookup PR1a = none) (hCdR1 : PySem.W.codeHdIn K cR1a PR1a = true) (hTabR2 : h.get? PR2a = some { cls := .none, data := .fields #[] }) (nTR2 : K.lookup PR2a = none) (hCdR2 : PySem.W.codeHdIn K cR2a PR2a = true)
    (y1 : PySem.W.nsIn K mainGlobals "LETTERS" = some (some (.str "abcdefghijklmnopqrstuvwxyz" t1))) (y2 : PySem.W.nsIn K mainGlobals "TurnError" = some (some (.ref E0))) (y3 : PySem.W.nsIn K mainGlobals "NoRow" = some (some (.ref CR)))
    (z1 : PySem.W.nsIn K mainGlobals "isinstance" = some none) (z2 : PySem.W.nsIn K mainGlobals "int" = some none) (z3 : PySem.W.nsIn K mainGlobals "bool" = some none) (z4 : PySem.W.nsIn K mainGlobals "str" = some none) (z5 : PySem.W.nsIn K mainGlobals "all" = some none) (z6 : PySem.W.nsIn K mainGlobals "len" = some none) : LawAtS l w K CX0 8 63 "_law_script" mg fa h := by
  have e := hfa.symm.trans (PySem.W.mg_of X G aZ)
  cases e
  have TD : TxtD K mg := ⟨PySem.W.mg_none_of X G z2, PySem.W.mg_none_of X G z6⟩
  have TC : TxtC K mg := ⟨PySem.W.mg_none_of X G z1, PySem.W.mg_none_of X G z2, PySem.W.mg_none_of X G z3, PySem.W.mg_none_of X G z4, PySem.W.mg_none_of X G z5, ⟨_, PySem.W.mg_of X G y1, ⟨_, rfl⟩⟩⟩
  have xT : ExcC K C1 := ⟨T1.ga, T1.gg, T1.exC, T1.hdC, haT, hn, ht, hmT⟩
  have xN : ExcC K C2 := ⟨T2.ga, T2.gg, T2.exC, T2.hdC, haN, hn, ht, hmN⟩
  have M : Kinds K mg E0 C1 C2 CR := ⟨PySem.W.mg_none_of X G z1, PySem.W.mg_of X G y2, T1.gC, T2.gC, PySem.W.mg_of X G y3, xT, xN, t0, tN, tR, n0, nT, nR, e11, e21, e22⟩
  have hP : PR1a ≠ PR2a := of_decide_eq_false hPne
  have FX := fun_mk (st := sIsText) lX cX kX
  have FN := fun_mk (st := sIsNum) lN cN kN
  have FCT := fun_mk (st := sCkText) lCT cCT kCT
  have FCN := fun_mk (st := sCkN) lCN cCN kCN
  have FA := fun_mk (st := sPartsOf) lA cA kA
  have FB := fun_mk (st := sAlikeNumber) lB cB kB
  have FC := fun_mk (st := sAnother) lC cC kC
  have FD := fun_mk (st := sExchange) lD cD kD
  have FL := fun_mk (st := sAlone) lL cL kL
  have FE := fun_mk (st := sAlike) lE cE kE
  have FF := fun_mk (st := sWays) lF cF kF
  have FP := fun_mk (st := sParting) lP cP kP
  have FW := fun_mk (st := sWell) lW cW kW
  have FDR := fun_mk (st := sDraw) lDR cDR kDR
  have FO := fun_mk (st := sOne) lO cO kO
  have FQ := fun_mk (st := sSaid) lQ cQ kQ
  have FR1 := fun_mk (st := sR1) lR1 cR1 kR1
  have FR2 := fun_mk (st := sR2) lR2 cR2 kR2
  have FZ := fun_mk (st := sLaw) lZ cZ kZ
  have bX := FX.binds (ps := ["value"]) fun _ _ _ _ _ _ us hl => match us, hl with | [_], _ => rfl
  have bN := FN.binds (ps := ["value", "least"]) fun _ _ _ _ _ _ us hl => match us, hl with | [_, _], _ => rfl
  have bCT := FCT.binds (ps := ["text"]) fun _ _ _ _ _ _ us hl => match us, hl with | [_], _ => rfl
  have bCN := FCN.binds (ps := ["number", "least"]) fun _ _ _ _ _ _ us hl => match us, hl with | [_, _], _ => rfl
  have bA := FA.binds (ps := ["text", "k"]) fun _ _ _ _ _ _ us hl => match us, hl with | [_, _], _ => rfl
  have bB := FB.binds (ps := ["text", "k"]) fun _ _ _ _ _ _ us hl => match us, hl with | [_, _], _ => rfl
  have bC := FC.binds (ps := ["text", "k"]) fun _ _ _ _ _ _ us hl => match us, hl with | [_, _], _ => rfl
  have bD := FD.binds (ps := ["text", "k"]) fun _ _ _ _ _ _ us hl => match us, hl with | [_, _], _ => rfl
  have bL := FL.binds (ps := ["text"]) fun _ _ _ _ _ _ us hl => match us, hl with | [_], _ => rfl
  have bE := FE.binds (ps := ["one", "other", "k"]) fun _ _ _ _ _ _ us hl => match us, hl with | [_, _, _], _ => rfl
  have bF := FF.binds (ps := ["one", "other", "k"]) fun _ _ _ _ _ _ us hl => match us, hl with | [_, _, _], _ => rfl
  have bP := FP.binds (ps := ["one", "other"]) fun _ _ _ _ _ _ us hl => match us, hl with | [_, _], _ => rfl
  have bW := FW.binds (ps := ["_law_cell"]) fun _ _ _ _ _ _ us hl => match us, hl with | [_], _ => rfl
  have bDR := FDR.binds (ps := ["_law_well_here", "_law_many"]) fun _ _ _ _ _ _ us hl => match us, hl with | [_, _], _ => rfl
  have bO := FO.binds (ps := ["_law_well_here", "_law_some"]) fun _ _ _ _ _ _ us hl => match us, hl with | [_, _], _ => rfl
  have bQ := FQ.binds (ps := ["_law_ask"]) fun _ _ _ _ _ _ us hl => match us, hl with | [_], _ => rfl
  have bR1 := FR1.binds (ps := ["_law_odd", "_law_wrong"]) fun _ _ _ _ _ _ us hl => match us, hl with | [_, _], _ => rfl
  have bR2 := FR2.binds (ps := ["_law_odd", "_law_other", "_law_wrong"]) fun _ _ _ _ _ _ us hl => match us, hl with | [_, _, _], _ => rfl
  have gX := PySem.W.mg_of X G aX
  have gN := PySem.W.mg_of X G aN
  have gCT := PySem.W.mg_of X G aCT
  have gCN := PySem.W.mg_of X G aCN
  have gA := PySem.W.mg_of X G aA
  have gB := PySem.W.mg_of X G aB
  have gC := PySem.W.mg_of X G aC
  have gD := PySem.W.mg_of X G aD
  have gL := PySem.W.mg_of X G aL
  have gE := PySem.W.mg_of X G aE
  have gF := PySem.W.mg_of X G aF
  have gP := PySem.W.mg_of X G aP
  have gW := PySem.W.mg_of X G aW
  have gDR := PySem.W.mg_of X G aDR
  have gO := PySem.W.mg_of X G aO
  have gQ := PySem.W.mg_of X G aQ
  have gR1 := PySem.W.mg_of X G aR1
  have gR2 := PySem.W.mg_of X G aR2
  have gZ := PySem.W.mg_of X G aZ
  refine ⟨PySem.W.fnOf "law" "law" (defArgs sLaw) (defBody sLaw) (defScope sLaw) .none kVZ dcZ pmZ anZ cdZ ctZ, [(cR1a, PR1a), (cR2a, PR2a)], spLaw K PR1a PR2a, fun p hp => ?_, fun p hp => ?_, fun p hp => ?_, fun s u => .of_eq rfl, fun H a ns hl _ hT hS => ⟨a, ns, rfl, hS, hl, hT (cR1a, PR1a) List.mem_cons_self, hT (cR2a, PR2a) (List.mem_cons_of_mem _ List.mem_cons_self), fun _ => rfl⟩, fun base _ _ hB => ?_⟩
  · rcases List.mem_cons.mp hp with rfl | hp
    · exact hTabR1
    rcases List.mem_cons.mp hp with rfl | hp
    · exact hTabR2
    exact absurd hp List.not_mem_nil
  · rcases List.mem_cons.mp hp with rfl | hp
    · exact nTR1
    rcases List.mem_cons.mp hp with rfl | hp
    · exact nTR2
    exact absurd hp List.not_mem_nil
  · rcases List.mem_cons.mp hp with rfl | hp
    · exact PySem.W.codeHd_of_K X hCdR1
    rcases List.mem_cons.mp hp with rfl | hp
    · exact PySem.W.codeHd_of_K X hCdR2
    exact absurd hp List.not_mem_nil
  have TBR1 : TabB base mg cR1a PR1a := hB (cR1a, PR1a) List.mem_cons_self
  have TBR2 : TabB base mg cR2a PR2a := hB (cR2a, PR2a) (List.mem_cons_of_mem _ List.mem_cons_self)
  have GX : FnOk l.prog w K mg base CX0 1 fX _ ["value"] (spWhat isT) := ok_isText FX TC
  have GN : FnOk l.prog w K mg base CX0 1 fN _ ["value", "least"] (spNumber) := ok_isNumber FN TC
  have GCT : FnOk l.prog w K mg base (L2.CX l.prog w) 3 fCT _ ["text"] (spCk C1 isT) := ok_CkText FCT T1 GX gX kX bX
  have GCN : FnOk l.prog w K mg base (L2.CX l.prog w) 3 fCN _ ["number", "least"] (spCkN C2) := ok_ckN FCN T2 GN gN kN bN
  have GA : FnOk l.prog w K mg base (L2.CX l.prog w) 4 fA _ ["text", "k"] (spTN C1 C2) := ok_PartsOf FA GCT gCT kCT bCT GCN gCN kCN bCN
  have GB : FnOk l.prog w K mg base (L2.CX l.prog w) 4 fB _ ["text", "k"] (spTN C1 C2) := ok_AlikeNumber FB GCT gCT kCT bCT GCN gCN kCN bCN
  have GC : FnOk l.prog w K mg base (L2.CX l.prog w) 4 fC _ ["text", "k"] (spTN C1 C2) := ok_Another FC GCT gCT kCT bCT GCN gCN kCN bCN
  have GD : FnOk l.prog w K mg base (L2.CX l.prog w) 4 fD _ ["text", "k"] (spTN C1 C2) := ok_Exchange FD GCT gCT kCT bCT GCN gCN kCN bCN
  have GL : FnOk l.prog w K mg base (L2.CX l.prog w) 4 fL _ ["text"] (spB1 C1) := ok_Alone FL GCT gCT kCT bCT
  have GE : FnOk l.prog w K mg base (L2.CX l.prog w) 4 fE _ ["one", "other", "k"] (spTTN C1 C2) := ok_Alike FE GCT gCT kCT bCT GCN gCN kCN bCN
  have GF : FnOk l.prog w K mg base (L2.CX l.prog w) 4 fF _ ["one", "other", "k"] (spTTN C1 C2) := ok_Ways FF GCT gCT kCT bCT GCN gCN kCN bCN
  have GP : FnOk l.prog w K mg base (L2.CX l.prog w) 4 fP _ ["one", "other"] (spB2 C1) := ok_Parting FP GCT gCT kCT bCT
  have GW : FnOk l.prog w K mg base CX0 1 fW _ ["_law_cell"] (spWell) := ok_well FW TD
  have GO : FnOk l.prog w K mg base CX0 2 fO _ ["_law_well_here", "_law_some"] (spOne) := ok_one FO TD FDR gDR bDR
  have GR1 : FnOk l.prog w K mg base CX0 7 fR1 _ ["_law_odd", "_law_wrong"] (spR1 PR1a PR2a) := ok_R1 lR1 cR1 TBR1 hP M T1 T2 ⟨lQ, gQ, kQ, cQ, bQ⟩ GA gA kA bA GB gB kB bB GC gC kC bC GD gD kD bD GL gL kL bL
  have GR2 : FnOk l.prog w K mg base CX0 7 fR2 _ ["_law_odd", "_law_other", "_law_wrong"] (spR2 PR1a PR2a) := ok_R2 lR2 cR2 TBR2 hP M T1 T2 ⟨lQ, gQ, kQ, cQ, bQ⟩ GE gE kE bE GF gF kF bF GP gP kP bP
  exact ok_law FZ GW gW kW bW GO gO kO bO GR1 gR1 kR1 bR1 GR2 gR2 kR2 bR2
end T83
open PySem PySem.W PyProof.Rows
set_option maxRecDepth 100000 in
set_option maxHeartbeats 0 in
theorem PySem.Challenge.cw_turnindex_k83_refused_alike_texts_holds : PySem.Challenge.rw_turnindex_k83_refused_alike_texts.Holds := by
  w_on; o_law; k_head; (case hw => w_witness2)
  k_fill
  refine LamX.walk_ofTs (l := PySem.Challenge.rw_turnindex_k83_refused_alike_texts) (n := 63) (k := 8) (x := "_law_script") (CX := fun _ => L2.CX0) rfl (by decide) rfl ⟨rfl, by decide, by decide⟩ (fun w h Y => PySem.W.km_in_of Y) ?F (fun _ _ _ _ _ z => z)
  case F =>
    intro w mg fa h Y KX G hmg
    refine' T83.all_mk KX G hmg (EK.err_mk (x := "NoText") (f := "text") KX G ?aC1 ?xL1 ?rv1 ?iC1 ?l11 ?c11 ?bd1 ?sc1 ?cd1 ?vf1 ?pf1 ?cL1 ?eB1 ?ho1 ?su1 ?fok1 ?top1) (EK.err_mk (x := "NoNumber") (f := "number") KX G ?aC2 ?xL2 ?rv2 ?iC2 ?l12 ?c12 ?bd2 ?sc2 ?cd2 ?vf2 ?pf2 ?cL2 ?eB2 ?ho2 ?su2 ?fok2 ?top2) ?haT ?haN ?hn ?ht ?hmT ?hmN ?t0 ?tN ?tR ?n0 ?nT ?nR ?e11 ?e21 ?e22 ?hPne ?paX ?plX ?pcX ?pkX ?paN ?plN ?pcN ?pkN ?paCT ?plCT ?pcCT ?pkCT ?paCN ?plCN ?pcCN ?pkCN ?paA ?plA ?pcA ?pkA ?paB ?plB ?pcB ?pkB ?paC ?plC ?pcC ?pkC ?paD ?plD ?pcD ?pkD ?paL ?plL ?pcL ?pkL ?paE ?plE ?pcE ?pkE ?paF ?plF ?pcF ?pkF ?paP ?plP ?pcP ?pkP ?paW ?plW ?pcW ?pkW ?paDR ?plDR ?pcDR ?pkDR ?paO ?plO ?pcO ?pkO ?paQ ?plQ ?pcQ ?pkQ ?paR1 ?plR1 ?pcR1 ?pkR1 ?paR2 ?plR2 ?pcR2 ?pkR2 ?paZ ?plZ ?pcZ ?pkZ (PySem.W.km_tabs_of Y _ (List.mem_cons_of_mem _ List.mem_cons_self)) ?nTR1 ?hCdR1 (PySem.W.km_tabs_of Y _ List.mem_cons_self) ?nTR2 ?hCdR2 ?y1 ?y2 ?y3 ?z1 ?z2 ?z3 ?z4 ?z5 ?z6
    (case aC1 => k_is); (case xL1 => k_is); (case rv1 => kernel_rfl); (case iC1 => k_is); (case l11 => k_is); (case c11 => k_is); (case bd1 => exact fun _ _ => rfl); (case sc1 => exact fun L => ⟨_, rfl⟩); (case cd1 => k_is); (case vf1 => rfl); (case pf1 => kernel_rfl); (case cL1 => k_is); (case eB1 => kernel_rfl); (case ho1 => k_is); (case su1 => k_is); (case fok1 => exact ⟨by decide +kernel, by decide +kernel, by decide +kernel, by decide +kernel⟩); (case top1 => kernel_rfl)
    (case aC2 => k_is); (case xL2 => k_is); (case rv2 => kernel_rfl); (case iC2 => k_is); (case l12 => k_is); (case c12 => k_is); (case bd2 => exact fun _ _ => rfl); (case sc2 => exact fun L => ⟨_, rfl⟩); (case cd2 => k_is); (case vf2 => rfl); (case pf2 => kernel_rfl); (case cL2 => k_is); (case eB2 => kernel_rfl); (case ho2 => k_is); (case su2 => k_is); (case fok2 => exact ⟨by decide +kernel, by decide +kernel, by decide +kernel, by decide +kernel⟩); (case top2 => kernel_rfl)
    (case haT => kernel_rfl)
    (case haN => kernel_rfl)
    (case hn => kernel_rfl)
    (case ht => kernel_rfl)
    (case hmT => kernel_rfl)
    (case hmN => kernel_rfl)
    (case t0 => kernel_rfl)
    (case tN => kernel_rfl)
    (case tR => kernel_rfl)
    (case n0 => kernel_rfl)
    (case nT => kernel_rfl)
    (case nR => kernel_rfl)
    (case e11 => kernel_rfl)
    (case e21 => kernel_rfl)
    (case e22 => kernel_rfl)
    (case hPne => kernel_rfl)
    (case paX => k_is); (case plX => k_is); (case pcX => k_is); (case pkX => k_is)
    (case paN => k_is); (case plN => k_is); (case pcN => k_is); (case pkN => k_is)
    (case paCT => k_is); (case plCT => k_is); (case pcCT => k_is); (case pkCT => k_is)
    (case paCN => k_is); (case plCN => k_is); (case pcCN => k_is); (case pkCN => k_is)
    (case paA => k_is); (case plA => k_is); (case pcA => k_is); (case pkA => k_is)
    (case paB => k_is); (case plB => k_is); (case pcB => k_is); (case pkB => k_is)
    (case paC => k_is); (case plC => k_is); (case pcC => k_is); (case pkC => k_is)
    (case paD => k_is); (case plD => k_is); (case pcD => k_is); (case pkD => k_is)
    (case paL => k_is); (case plL => k_is); (case pcL => k_is); (case pkL => k_is)
    (case paE => k_is); (case plE => k_is); (case pcE => k_is); (case pkE => k_is)
    (case paF => k_is); (case plF => k_is); (case pcF => k_is); (case pkF => k_is)
    (case paP => k_is); (case plP => k_is); (case pcP => k_is); (case pkP => k_is)
    (case paW => k_is); (case plW => k_is); (case pcW => k_is); (case pkW => k_is)
    (case paDR => k_is); (case plDR => k_is); (case pcDR => k_is); (case pkDR => k_is)
    (case paO => k_is); (case plO => k_is); (case pcO => k_is); (case pkO => k_is)
    (case paQ => k_is); (case plQ => k_is); (case pcQ => k_is); (case pkQ => k_is)
    (case paR1 => k_is); (case plR1 => k_is); (case pcR1 => k_is); (case pkR1 => k_is)
    (case paR2 => k_is); (case plR2 => k_is); (case pcR2 => k_is); (case pkR2 => k_is)
    (case paZ => k_is); (case plZ => k_is); (case pcZ => k_is); (case pkZ => k_is)
    (case nTR1 => kernel_rfl); (case hCdR1 => kernel_rfl)
    (case nTR2 => kernel_rfl); (case hCdR2 => kernel_rfl)
    (case y1 => k_is)
    (case y2 => k_is)
    (case y3 => k_is)
    (case z1 => k_is); (case z2 => k_is); (case z3 => k_is); (case z4 => k_is); (case z5 => k_is); (case z6 => k_is)
