import PyProof.Rows.All
import Wide.All
import OpenK.AllK
import Wide.FinOn
import KE.KExcSuper
import HandS.ForMost
import HandS.Exc
import HandS.ExcInit
import HandS.ExcField
import HandS.ExcValue
import HandS.Style
import HandS.Walk
import HandS.IsInst
import HandS.More
import KE.KExcIs
import PyProof.NeKinds
import KE.KEqDict
import HandS.ExcIs
import HandS.TryMany
import HandS.Lambda
import HandS.EndTab
import HandS.DictSubView
import HandS.Sort
import HandS.Gcd
import HandS.Wide
import KE.KDictList
import KE.KMathGC
import HandS.Codes
import HandS.WordsExc
import KE.KNestM
import PySem.Challenge.RW_turnindex_k08_counts_that_are_none
set_option Elab.async false
set_option linter.all false
set_option maxRecDepth 100000
set_option maxHeartbeats 4000000
/-! ErrKit: an error class of the program: __init__ says super().__init__(text), then keeps its one value. -/
namespace EK
open PySem PySem.W PySem.Calls PyProof.Rows PySem.HandSPX L2
/-! ### the text of such an __init__ -/
def eArgs (f : Str) (p1 p2 : Pos) : Arguments := { posonlyargs := [], args := [{ arg := "self", annotation := none, pos := p1 }, { arg := f, annotation := none, pos := p2 }], vararg := none, kwonlyargs := [], kw_defaults := [], kwarg := none, defaults := [] }
def eBody (f msg : Str) (a1 a2 a3 a4 a5 a6 b1 b2 b3 b4 : Pos) : List Stmt :=
  [.Expr (.Call (.Attribute (.Call (.Name "super" a1) [] [] a2) "__init__" a3) [.Constant (.str msg) 0 a4] [] a5) a6, .Assign [.Attribute (.Name "self" b1) f b2] (.Name f b3) b4]
def eScope (f : Str) : Scope := { kind := .function, names := [(PySem.Str.ofString "self", .local), (f, .local), (PySem.Str.ofString "__class__", .free), (PySem.Str.ofString "super", .globalImplicit)], isGenerator := false, isCoroutine := false, more := [] }

/-- the row super().__init__(msg) of the text, as a call of a method -/
def SupCall (a1 a2 a3 a4 a5 : Pos) (msg : Str) (env : Env) : Prop := ∃ pl : Sem Bool,
  eval (.Call (.Attribute (.Call (.Name "super" a1) [] [] a2) "__init__" a3) [.Constant (.str msg) 0 a4] [] a5) env = (do
    let ov ← attributeBase (.Call (.Name "super" a1) [] [] a2) "__init__" env (eval (.Call (.Name "super" a1) [] [] a2) env)
    standAt a3.atName
    let (g, first) ← holding [ov] (getMethod ov "__init__" pl)
    callWith a5 g first (backTo a5 (starEach [.Constant (.str msg) 0 a4] env)) [])
/-- what the top has written of the class x at C, of its __init__ at fI -/
structure ErrTxt (P : Program) (K : Frag) (mg : Str → Option Value) (x f : Str) (C fI : Addr) : Prop where
  gC : mg x = some (.ref C)
  cls : ∃ nm q N bs bm sn sub ab col dd k0 k1 k2 k3 k5, K.lookup C = some (excClassObj nm q C N bs bm true sn sub ab col dd k0 k1 k2 k3 k5 "ValueError.__new__") ∧ refsVE bm = true
  sa : findIn K (.ref C) "__setattr__" = some (some (.builtin "object.__setattr__"))
  ga : findIn K (.ref C) "__getattribute__" = some (some (.builtin "BaseException.__getattribute__"))
  gg : findIn K (.ref C) "__getattr__" = some none
  noN : findIn K (.ref C) f = some none
  iC : findIn K (.ref C) "__init__" = some (some (.ref fI))
  tC : typeIn K (.ref fI) = some (.type "function")
  kC : keepIn K (.ref C) = true
  exC : subIn K (.ref C) (.type "BaseException") = some true
  tyC : typeIn K (.ref C) = some (.type "type")
  hdC : hasDictIn K C = true
  te : exmOne K (.ref C) (.ref C) = some true
  hB : subIn K (.ref C) (.type "ValueError") = some true
  si : ks_superIn K C C "__init__" = some (some (.builtin "ValueError.__init__"))
  ho : nsIn K cStatics "thirdparty.any" = some none
  su : mg "super" = none
  mC : mroIn K C (.ref C) = some true
  fok : f ≠ "self" ∧ f ≠ "__class__" ∧ f ≠ "super" ∧ f ≠ "__debug__"
  top : (P.main.scope.names.lookup ("super" : Str)).isSome = false
  fn : ∃ (oc : Value) (od : Option Addr) (qn msg : Str) (doc pm : Value) (an : Option Addr) (cda cc : Addr) (ct : Value) (osl : Array (Option Value)) (p1 p2 a1 a2 a3 a4 a5 a6 b1 b2 b3 b4 : Pos),
    K.lookup fI = some ⟨oc, od, .func (ksFn "__init__" qn (eArgs f p1 p2) (eBody f msg a1 a2 a3 a4 a5 a6 b1 b2 b3 b4) (eScope f) .none .none doc pm an (.ref cda) ct cc), osl⟩ ∧ codeIn K (.ref cda) qn = true ∧
    (∀ u v : Value, bindArgs (ksFn "__init__" qn (eArgs f p1 p2) (eBody f msg a1 a2 a3 a4 a5 a6 b1 b2 b3 b4) (eScope f) .none .none doc pm an (.ref cda) ct cc) ⟨[u, v], []⟩ = pure [(("self" : Str), u), (f, v)]) ∧
    (∀ L : Addr, SupCall a1 a2 a3 a4 a5 msg (callEnv (ksFn "__init__" qn (eArgs f p1 p2) (eBody f msg a1 a2 a3 a4 a5 a6 b1 b2 b3 b4) (eScope f) .none .none doc pm an (.ref cda) ct cc) L fI)) ∧
    (∃ (ccl : Value) (cdd : Option Addr) (ccs : Array (Option Value)) (vs : Array Value) (file : Str) (tf : Tok), K.lookup cda = some ⟨ccl, cdd, .fields vs, ccs⟩ ∧ vs[2]? = some (.str file tf) ∧ ((P.main.file : Str) == file) = true) ∧
    ∃ (cl : Value) (cld : Option Addr) (csl : Array (Option Value)), K.lookup cc = some ⟨cl, cld, .cell (some (.ref C)), csl⟩
theorem one_size (v : Value) : [v].length ≤ sizeLine := by
  rw [sizeLine_eq]
  exact (by decide : 1 ≤ 16777216)
/-- what __init__ leaves of the exception at y -/
structure MadeI (h h' : Heap) (y C dx : Addr) (f : Str) (v : Value) : Prop where
  keep : ∀ b o, b ≠ y → h.get? b = some o → h'.get? b = some o
  obj : ∃ t1 : Addr, h'.get? y = some { cls := .ref C, dict := some dx, data := .fields #[.ref t1, .none, .none, .none, .bool false, .none] }
  dbig : h.objs.size ≤ dx
  dne : dx ≠ y
  ns : h'.Ns1 dx (fun z => if z = f then some v else none)
theorem kept_but {K : Frag} {h h' : Heap} {x : Addr} (X : K.In h) (hx : K.lookup x = none) (k : ∀ b o, b ≠ x → h.get? b = some o → h'.get? b = some o) : K.In h' := fun a o e =>
  k a o (fun z => by rw [z, hx] at e; cases e) (X a o e)
section
variable {prog : Program} {w : World} {A : Around} {E : Value → Shared → Prop} {R : Result → Shared → Prop} {s : Shared} {K : Frag} {mg : Str → Option Value} {C fI : Addr} {x f : Str}
/-- the method-wrapper that super().__init__ gives is called -/
theorem call_mw {u e t0 : Addr} {rest : List Value} {nm q : Str} {C N : Addr} {bs bm : List Value} {hdct : Bool} {sn : List Str} {sub : List Value} {ab : Bool} {col : Option Bool} {dd : Option Addr} {k0 k1 k2 k3 k5 : Option Value} {Q : Value → Shared → Prop}
    (hC : s.heap.get? C = some (excClassObj nm q C N bs bm hdct sn sub ab col dd k0 k1 k2 k3 k5 "ValueError.__new__")) (he : s.heap.get? e = some (excO C t0)) (hu : s.heap.get? u = some (kxs_mw "ValueError.__init__" e)) (hrest : rest.length ≤ sizeLine)
    (hq : ∀ h' t1, (∀ b o, b ≠ e → s.heap.get? b = some o → h'.get? b = some o) → h'.get? e = some (excO C t1) → Q .none { s with heap := h' }) :
    wpAny (model prog w) A (call (.ref u) rest) Q E s := by
  obtain ⟨hh, g, d, tk, os⟩ := s
  refine wpAny_call (codeAny_of_tree ?_)
  show wpAny _ A.in1 (callAny (.ref u) ⟨rest, []⟩) _ _ _
  simp only [callAny]
  refine wpAny_bind (wpAny_load hu ?_)
  simp only [kxs_mw, show (Value.type "method-wrapper" == Value.type "method" || Value.type "method-wrapper" == Value.type "builtin_function_or_method" || Value.type "method-wrapper" == Value.type "method-wrapper") = true by decide, if_true]
  refine KFB.if_so (by decide) ?_
  refine wpAny_bind (check_bound_init F.excBase_ValueError.toExcCallFacts hC he rfl ?_)
  refine wpAny_bind (wpAny_pure (wpAny_pure ?_))
  refine ⟨plainId_quiet F.excBase_ValueError.init.plain _, codeAny_builtin F.excBase_ValueError.initEntry ?_⟩
  exact exc_init_tree (cls := .ref C) (t0 := t0) (dv := none) (c2 := .none) (c3 := .none) (b4 := .bool false) he hrest fun h' k o _ => hq h' _ k o
theorem look_self (f : Str) : (eScope f).names.lookup ("self" : Str) = some .local := by
  show List.lookup ("self" : Str) ((("self" : Str), NameKind.local) :: _) = _
  rw [List.lookup_cons]
  simp
theorem look_f {f : Str} (h : f ≠ "self") : (eScope f).names.lookup f = some .local := by
  have e : (f == ("self" : Str)) = false := by simpa using h
  show List.lookup f ((("self" : Str), NameKind.local) :: (f, NameKind.local) :: _) = _
  rw [List.lookup_cons, e, List.lookup_cons]
  simp
theorem look_cls {f : Str} (h : f ≠ "__class__") : (eScope f).names.lookup ("__class__" : Str) = some .free := by
  have e : ((("__class__" : Str)) == f) = false := by simpa using Ne.symm h
  have e2 : ((("__class__" : Str)) == ("self" : Str)) = false := by decide +kernel
  show List.lookup ("__class__" : Str) ((("self" : Str), NameKind.local) :: (f, NameKind.local) :: (("__class__" : Str), NameKind.free) :: _) = _
  rw [List.lookup_cons, e2, List.lookup_cons, e, List.lookup_cons]
  simp
theorem look_super {f : Str} (h : f ≠ "super") : (eScope f).names.lookup ("super" : Str) = some .globalImplicit := by
  have e : ((("super" : Str)) == f) = false := by simpa using Ne.symm h
  have e2 : ((("super" : Str)) == ("self" : Str)) = false := by decide +kernel
  have e3 : ((("super" : Str)) == ("__class__" : Str)) = false := by decide +kernel
  show List.lookup ("super" : Str) ((("self" : Str), NameKind.local) :: (f, NameKind.local) :: (("__class__" : Str), NameKind.free) :: (("super" : Str), NameKind.globalImplicit) :: []) = _
  rw [List.lookup_cons, e2, List.lookup_cons, e, List.lookup_cons, e3, List.lookup_cons]
  simp
theorem bl_self {f : Str} (h : f ≠ "self") (a v : Value) : List.lookup ("self" : Str) ([(("self" : Str), a), (f, v)].reverse) = some a := by
  have e : ((("self" : Str)) == f) = false := by simpa using Ne.symm h
  show List.lookup ("self" : Str) ((f, v) :: (("self" : Str), a) :: []) = _
  rw [List.lookup_cons, e, List.lookup_cons]
  simp
theorem bl_f {f : Str} (a v : Value) : List.lookup f ([(("self" : Str), a), (f, v)].reverse) = some v := by
  show List.lookup f ((f, v) :: (("self" : Str), a) :: []) = _
  rw [List.lookup_cons]
  simp
theorem err_init (T : ErrTxt prog K mg x f C fI) {y t0 : Addr} {v : Value} (X : K.In s.heap) (hlim : s.heap.NoLimit) (hg : s.heap.Ns mainGlobals mg) (hb : ∃ mb, s.heap.Ns builtinsNs mb ∧ ∀ z : Str, z ≠ "__name__" → mb z = bootBuiltins z)
    (hx : s.heap.get? y = some (excO C t0)) (hnx : K.lookup y = none) (hroom : A.depth < recursionLimit)
    (hq : ∀ h' tk dx, MadeI s.heap h' y C dx f v → R (.ok (.ret .none)) { s with heap := h', toks := tk }) :
    codeAny (model prog w) A (.call (.ref fI) ⟨[.ref y, v], []⟩) R s := by
  obtain ⟨oc, od, qn, msg, doc, pm, an, cda, cc, ct, osl, p1, p2, a1, a2, a3, a4, a5, a6, b1, b2, b3, b4, ho, hcd, hB, hS, ⟨ccl, cdd, ccs, vs, file, tf, hcda, hvs, hfile⟩, ⟨cl, cld, csl, hcell⟩⟩ := T.fn
  obtain ⟨nm, q, N, bs, bm, sn, sub, ab, col, dd, k0, k1, k2, k3, k5, hC, hbm⟩ := T.cls
  obtain ⟨mb, hbn, hbv⟩ := hb
  obtain ⟨hf1, hf2, hf3, hf4⟩ := T.fok
  have hcl : clsIn K C = some { name := nm, bases := bs, mro := .ref C :: bm, ns := N, qualname := q, hasDict := true, slotNames := sn, subclasses := sub, abstract := ab, collection := col, hasDel := false } := by unfold clsIn; rw [hC] <;> rfl
  refine ks_codeAny_call_defAt (fd := ksFn "__init__" qn (eArgs f p1 p2) (eBody f msg a1 a2 a3 a4 a5 a6 b1 b2 b3 b4) (eScope f) .none .none doc pm an (.ref cda) ct cc) (body := eBody f msg a1 a2 a3 a4 a5 a6 b1 b2 b3 b4) (binds := [(("self" : Str), Value.ref y), (f, v)]) hroom (X _ _ ho) rfl hlim (codeRec_of X hcd) rfl (BindsTo.of_eq (hB _ _)) ?_ ?_ (fun h₁ hns k => ?_) rfl rfl rfl
  · intro z hz
    rcases List.mem_cons.mp hz with rfl | hz
    · exact fun e => nomatch e
    rcases List.mem_cons.mp hz with rfl | hz
    · exact fun e => nomatch e
    rcases List.mem_cons.mp hz with rfl | hz
    · exact fun e => nomatch e
    rcases List.mem_cons.mp hz with rfl | hz
    · exact fun e => nomatch e
    · cases hz
  · intro z hz
    rcases List.mem_cons.mp hz with rfl | hz
    · exact look_self f
    rcases List.mem_cons.mp hz with rfl | hz
    · exact look_f hf1
    · cases hz
  · have X₁ : K.In h₁ := X.keeps k
    have hyL : s.heap.objs.size ≠ y := Nat.ne_of_gt (Heap.lt_size hx)
    have ks : (callEnv (ksFn "__init__" qn (eArgs f p1 p2) (eBody f msg a1 a2 a3 a4 a5 a6 b1 b2 b3 b4) (eScope f) .none .none doc pm an (.ref cda) ct cc) s.heap.objs.size fI).kindOf "super" = some .globalImplicit := look_super hf3
    obtain ⟨oD, hD⟩ : ∃ oD, h₁.get? C = some oD ∧ ∃ cd : ClassData, oD.data = .cls cd := ⟨_, X₁ _ _ hC, _, rfl⟩
    obtain ⟨hD1, cdD, hD2⟩ := hD
    have IY : ∀ {h : Heap}, h.get? y = some (excO C t0) → InstAt h y (excO C t0) C none := fun e => ⟨e, rfl, rfl, trivial⟩
    have hyC : y ≠ C := fun z => by rw [z, hC] at hnx; cases hnx
    obtain ⟨pl, hpl⟩ := hS s.heap.objs.size
    refine ks_wpAt_execs_cons (ks_wpAt_Expr_any (ks_wpAt_MethodCall ?_ hpl) (by rfl) (by rfl))
    refine ks_wpAt_super_base ks (look_cls hf2) (by decide +kernel) rfl (X₁ _ _ ho) rfl rfl rfl (X₁ _ _ hcda) rfl hvs hfile T.top ?_
    refine ks_loadName_global rfl ks (loadGlobal_builtin (hg.keeps k) T.su (hbn.keeps k) (hbv _ (by decide +kernel)) ⟨by rfl, ?_⟩)
    refine wpAny_loadName_free rfl (look_cls hf2) rfl ⟨_, X₁ _ _ hcell, rfl⟩ ?_
    refine wpAny_loadName_local rfl (look_self f) hns (bl_self hf1 _ _) ?_
    refine ks_wpAny_isType_cls hD1 hD2 ⟨rfl, ?_⟩
    refine ks_wpAny_call_super hD1 hD2 (k _ _ hx) rfl (fun c e => nomatch e) (looks_mroIn X₁ T.mC) (fun h2 hso k2 => ?_)
    have X2 : K.In h2 := X₁.keeps k2
    refine kxs_getMethod kxs_ValueError hso (looks_opaque X2 T.ho) (l₀ := .ref C :: bm) ((looks_clsIn X2 hcl).andThen .now) rfl X2 ?_ ((IY (k2 _ _ (k _ _ hx))).type.andThen (looks_subIn X2 T.hB)) hyC (by decide +kernel) ?_
    · have e := T.si
      unfold ks_superIn at e
      rw [hcl] at e
      exact e
    have k3 : ∀ b o, h2.get? b = some o → (h2.push (kxs_mw "ValueError.__init__" y)).get? b = some o := fun b o e => Heap.get?_push_of_some _ e
    have hu : (h2.push (kxs_mw "ValueError.__init__" y)).get? h2.objs.size = some (kxs_mw "ValueError.__init__" y) := Heap.get?_push_at rfl rfl
    refine kxs_callWith (i := "ValueError.__init__") (x := y) (by rfl) (evalArgs_plain (Calls.spliced_cons (Calls.Constant_str (k := 0) (pos := a4) (Calls.spliced_nil ⟨hu, ?_⟩))))
    refine call_mw (X2.keeps k3 _ _ hC) (k3 _ _ (k2 _ _ (k _ _ hx))) hu (one_size _) fun h4 t1 k4 hy4 => ?_
    have X4 : K.In h4 := kept_but (X2.keeps k3) hnx k4
    have kk : ∀ b o, b ≠ y → h₁.get? b = some o → h4.get? b = some o := fun b o n e => k4 b o n (k3 b o (k2 b o e))
    have n4 : h4.Ns s.heap.objs.size fun z => [(("self" : Str), Value.ref y), (f, v)].reverse.lookup z := by
      obtain ⟨o, es, ep, e1, r⟩ := hns
      exact ⟨o, es, ep, kk _ _ hyL e1, r⟩
    have hfd : (f == ("__debug__" : Str)) = false := by simpa using hf4
    refine wpAt_of_wpAny (wpAny_execs_cons (plainObj_wpAny_Assign_Attribute ?_))
    refine wpAny_Name (wpAny_loadName_local rfl (look_f hf1) n4 (bl_f _ _) ?_) hfd
    refine wpAny_Name (wpAny_loadName_local rfl (look_self f) n4 (bl_self hf1 _ _) ?_) (by decide +kernel)
    refine set_plain X4 (ox := excO C t1) (od := none) ⟨hy4, rfl, rfl, trivial⟩ T.sa ?_
    refine exc_osa X4 hy4 hcl (show refsVE (.ref C :: bm) = true from hbm) rfl T.noN (fun h5 tk5 dx k5 dn dne hx5 hn5 => ?_)
    refine wpAny_execs_nil (hq h5 tk5 dx ⟨fun b o hb e => k5 b o hb (kk b o hb (k b o e)), ⟨_, hx5⟩, ?_, dne, hn5⟩)
    have z1 : s.heap.objs.size < h4.objs.size := n4.lt
    exact Nat.le_of_lt (Nat.lt_of_lt_of_le z1 dn)
/-- an error that was made: the object at e, its own dict at d -/
structure MadeE (h h' : Heap) (e C d : Addr) (f : Str) (v : Value) : Prop where
  keep : ∀ b o, h.get? b = some o → h'.get? b = some o
  new : h.objs.size ≤ e
  obj : ∃ t1 : Addr, h'.get? e = some { cls := .ref C, dict := some d, data := .fields #[.ref t1, .none, .none, .none, .bool false, .none] }
  dbig : h.objs.size ≤ d
  dne : d ≠ e
  ns : h'.Ns1 d (fun z => if z = f then some v else none)
theorem not_in {K : Frag} {h : Heap} {a : Addr} (X : K.In h) (ha : h.objs.size ≤ a) : K.lookup a = none := by
  cases e : K.lookup a with
  | none => rfl
  | some o => exact absurd (Nat.lt_of_lt_of_le (Heap.lt_size (X _ _ e)) ha) (Nat.lt_irrefl _)
theorem err_made (T : ErrTxt prog K mg x f C fI) {v : Value} (X : K.In s.heap) (hlim : s.heap.NoLimit) (hg : s.heap.Ns mainGlobals mg) (hb : ∃ mb, s.heap.Ns builtinsNs mb ∧ ∀ z : Str, z ≠ "__name__" → mb z = bootBuiltins z)
    (hroom : A.depth + 1 < recursionLimit) (hq : ∀ h' tk e d, MadeE s.heap h' e C d f v → R (.ok (.ret (.ref e))) { s with heap := h', toks := tk }) :
    codeAny (model prog w) A (.call (.ref C) ⟨[v], []⟩) R s := by
  obtain ⟨nm, q, N, bs, bm, sn, sub, ab, col, dd, k0, k1, k2, k3, k5, hC, hbm⟩ := T.cls
  obtain ⟨mb, hbn, hbv⟩ := hb
  obtain ⟨hp, g, dr, tk, os⟩ := s
  have k : ∀ b o, hp.get? b = some o → ((hp.push (kdv_tup [v])).push (excO C hp.objs.size)).get? b = some o := fun b o e => Heap.get?_push_of_some _ (Heap.get?_push_of_some _ e)
  have hget : ((hp.push (kdv_tup [v])).push (excO C hp.objs.size)).get? (hp.objs.size + 1) = some (excO C hp.objs.size) := by heap_get
  have hnx : K.lookup (hp.objs.size + 1) = none := not_in X (Nat.le_succ _)
  refine call_own F.excBase_ValueError (fun X => refsVE_contains X bm hbm) (X _ _ hC) (looks_findIn X T.iC) (fun self => bind_fn X self T.tC) (one_size v) ?_
  refine err_init (s := ⟨(hp.push (kdv_tup [v])).push (excO C hp.objs.size), g, dr, tk, os⟩) T (X.keeps k) (hlim.keeps k) (hg.keeps k) ⟨mb, hbn.keeps k, hbv⟩ hget hnx ?_ fun h' tk' dx ⟨k', ⟨t1, hx⟩, dn, dne, hns⟩ => ?_
  · show A.depth + 1 < recursionLimit
    exact hroom
  · have old : ∀ b o, hp.get? b = some o → h'.get? b = some o := fun b o e => k' b o (Nat.ne_of_lt (Nat.lt_succ_of_lt (Heap.lt_size e))) (k b o e)
    have z : hp.objs.size + 1 + 1 ≤ dx := by
      have q := dn
      rw [Heap.size_push, Heap.size_push] at q
      exact q
    exact ⟨rfl, hq h' tk' (hp.objs.size + 1) dx ⟨old, Nat.le_succ _, ⟨t1, hx⟩, Nat.le_trans (Nat.le_trans (Nat.le_succ _) (Nat.le_succ _)) z, dne, hns⟩⟩
end
end EK
namespace L2
open PySem PySem.Spec PyProof.Rows EK
theorem relO_one {f : Str} {v : V} {u : Value} (r : RelV v u) (g : Str) : RelO (List.lookup g [(f, v)]) (if g = f then some u else none) := relO_put (fs := []) (mA := fun _ => none) r (fun _ => True.intro) g
section
variable {X : Cx} {C fI : Addr} {x f : Str}
/-- x(e) as a value: a new error at a, its dict at d -/
def tErrV (C : Addr) (f : Str) (ta : TA) : TE := fun σ H Q => ta σ H fun vs H1 => ∃ v, vs = [v] ∧ ∀ a d, H1 a = none → H1 d = none → d ≠ a → Q (.ref a) (upd (upd H1 d (exd d [(f, v)])) a (exo a C (some d)))
theorem pe_errV {a : Expr} {ta : TA} {p pos : Pos} {k : Nat} (T : ErrTxt X.prog X.K X.mg x f C fI) (hr : Room k X.A) (ha : PA X [a] ta) (hg : Gl X x) (hd : (x == ("__debug__" : Str)) = false := by decide)
    (he : starEach (a :: []) X.env = (false, eval a X.env) :: starEach [] X.env := by rfl) (hpl : (backTo pos (starEach [] X.env)).any (·.1) = false := by rfl) :
    PE X (.Call (.Name x p) [a] [] pos) (tErrV C f ta) := by
  refine ⟨fun pins s σ H Q I h => ?_⟩
  refine wpAny_Call_Name_kw (ld_glob I hg T.gC ?_ hd)
  refine PySem.W.callWith_K (h₀ := X.base) I.ok.mod.kin T.kC (thn (ha.run pos pins s σ H _ I h) fun us s1 hh => ?_) he hpl
  obtain ⟨vs, H1, I1, r1, v, ev, q1⟩ := hh
  subst ev
  refine ⟨I1.kIn, ?_⟩
  cases r1 with
  | cons rv rn =>
    rename_i v' us'
    cases rn
    show wpAny _ _ (call (.ref C) [v']) _ _ _
    have hlim := I1.nolimit
    obtain ⟨hp, g, dr, tk, os⟩ := s1
    obtain ⟨mb, hb1, hb2⟩ := I1.mod.blt
    refine wpAny_call (err_made T I1.kIn hlim (I1.mod.glob.keeps I1.bk) ⟨mb, hb1.keeps I1.bk, hb2⟩ (by have := hr.dp; omega) fun h' tk' e d M => ?_)
    obtain ⟨t1, hoe⟩ := M.obj
    have nd : H1 d = none := I1.hok.fresh M.dbig
    have ne : H1 e = none := I1.hok.fresh M.new
    obtain ⟨G, g1, g2⟩ := restrict h' fun b => decide (b ≠ e)
    have gk : ∀ b, b ≠ e → G.get? b = h'.get? b := fun b hb => g1 b (decide_eq_true hb)
    have ge : G.get? e = none := g2 e (by simp)
    have old : ∀ b o, hp.get? b = some o → G.get? b = some o := fun b o q => (gk b (Nat.ne_of_lt (Nat.lt_of_lt_of_le (Heap.lt_size q) M.new))).trans (M.keep b o q)
    have gs : ∀ b o, G.get? b = some o → h'.get? b = some o := fun b o q => by
      by_cases hbe : b = e
      · rw [hbe, ge] at q
        cases q
      · exact (gk b hbe).symm.trans q
    have J : Inv X pins σ (upd H1 d (exd d [(f, v)])) ⟨G, g, dr, tk', os⟩ := I1.laid (t' := tk') old M.dbig (exd_ok (M.ns.at fun o q => (gk d M.dne).trans q) (relO_one rv))
    have hne : (upd H1 d (exd d [(f, v)])) e = none := by
      rw [upd_ne (Ne.symm M.dne)]
      exact ne
    exact ⟨.ref e, _, J.laidN (t' := tk') gs ge hne (exo_ok hoe), rfl, q1 e d ne nd M.dne⟩
/-- a field of an error, read -/
def tErrF (K : PySem.W.Frag) (f : Str) (te : TE) : TE := fun σ H Q => te σ H fun x H1 => ∃ (a C d : Addr) (fs : List (Str × V)) (v : V), x = .ref a ∧ H1 a = some (exo a C (some d)) ∧ H1 d = some (exd d fs) ∧ XfC K C ∧ PySem.W.findIn K (.ref C) f = some none ∧ fs.lookup f = some v ∧ Q v H1
theorem pe_errF {e : Expr} {te : TE} {pos : Pos} (he : PE X e te) (hb : attributeBase e f X.env (eval e X.env) = eval e X.env := by rfl) : PE X (.Attribute e f pos) (tErrF X.K f te) := by
  refine ⟨fun pins s σ H Q I h => ?_⟩
  refine attr_of hb (thn (he.run pins s σ H _ I h) fun u s1 hh => ?_)
  obtain ⟨y, H1, I1, ry, a, C, d, fs, v, ey, ea, ed, T, hno, l, q⟩ := hh
  subst ey
  obtain rfl : u = Value.ref a := ry
  obtain ⟨t1, ha⟩ := exo_at I1.hok ea
  obtain ⟨mA, hns, hr⟩ := exd_at I1.hok ed
  obtain ⟨od, ho, hl⟩ := lookIn_ns hns
  obtain ⟨u, hu, ru⟩ := RelO.some_of (v := v) (o := mA f) (by rw [← l]; exact hr f)
  have J : PySem.W.InstAt s1.heap a _ C (some od) := ⟨ha, rfl, rfl, ho⟩
  exact HandSPX.exc_get I1.kIn J T.ga T.gg T.exC (PySem.W.findObj_own T.hdC hno rfl (by rw [hl, hu])) (handed_of ru) ⟨v, H1, I1.tok _, ru, q⟩
end
end L2

set_option Elab.async false
set_option linter.all false
set_option maxRecDepth 100000
set_option maxHeartbeats 4000000
/-! EqKit: things that are told equal, whatever they hold; isinstance of errors. -/
namespace L2
open PySem PySem.Spec PyProof.Rows
/-- x and y compare equal, at most n deep: one thing, or lists, tuples of such -/
inductive Sm (K : PySem.W.Frag) (H : Hp) : Nat → V → V → Prop
  | rf {n : Nat} (x : V) (h : ∀ b, x ≠ .flt b) : Sm K H n x x
  | ls {n : Nat} {a b : Addr} {xs ys : List V} (h1 : SqL K H a xs) (h2 : SqL K H b ys) (hl : xs.length = ys.length) (h : ∀ (i : Nat) x y, xs[i]? = some x → ys[i]? = some y → Sm K H n x y) : Sm K H (n + 1) (.ref a) (.ref b)
  | tp {n : Nat} {a b : Addr} {xs ys : List V} (h1 : SqT K H a xs) (h2 : SqT K H b ys) (hl : xs.length = ys.length) (h : ∀ (i : Nat) x y, xs[i]? = some x → ys[i]? = some y → Sm K H n x y) : Sm K H (n + 1) (.ref a) (.ref b)
section
variable {X : Cx} {pins : List (Addr × Obj)} {σ : St} {H : Hp} {s : Shared}
theorem sm_items {xs ys : List V} {us vs : List Value} {A : Around} (rx : Vals xs us) (ry : Vals ys vs)
    (h : ∀ (i : Nat) x y, xs[i]? = some x → ys[i]? = some y → ∀ u v, RelV x u → RelV y v → SeqAt.EqAt A s u v true) :
    ∀ j (h1 : j < us.toArray.size) (h2 : j < vs.toArray.size), SeqAt.EqAt A s us.toArray[j] vs.toArray[j] true := by
  intro j h1 h2
  have l1 := rx.length
  have l2 := ry.length
  have j1 : j < xs.length := by rw [l1]; simpa using h1
  have j2 : j < ys.length := by rw [l2]; simpa using h2
  obtain ⟨u, e1, r1⟩ := rx.get (List.getElem?_eq_getElem j1)
  obtain ⟨v, e2, r2⟩ := ry.get (List.getElem?_eq_getElem j2)
  have f1 : us.toArray[j] = u := by
    have q : us[j]? = some (us[j]'(by simpa using h1)) := List.getElem?_eq_getElem _
    rw [e1] at q
    simpa using (Option.some.inj q).symm
  have f2 : vs.toArray[j] = v := by
    have q : vs[j]? = some (vs[j]'(by simpa using h2)) := List.getElem?_eq_getElem _
    rw [e2] at q
    simpa using (Option.some.inj q).symm
  rw [f1, f2]
  exact h j _ _ (List.getElem?_eq_getElem j1) (List.getElem?_eq_getElem j2) u v r1 r2
theorem all_true {n : Nat} : ((List.range n).all fun _ => true) = true := by
  induction n with
  | zero => rfl
  | succ n ih => simp
theorem sm_at (I : Inv X pins σ H s) : ∀ {n : Nat} {x y : V} {u v : Value} {A : Around}, Sm X.K H n x y → RelV x u → RelV y v → A.units + n < cLine → SeqAt.EqAt A s u v true := by
  intro n x y u v A h
  induction h generalizing u v A with
  | rf x hf =>
    intro r1 r2 _
    cases x with
    | non => cases r1; cases r2; exact .same _
    | bl b => cases r1; cases r2; exact .same _
    | int i =>
      obtain ⟨t, rfl⟩ := r1
      obtain ⟨t', rfl⟩ := r2
      have q := SeqAt.EqAt.int_int (A := A) (s := s) i t i t'
      rw [beq_self_eq_true] at q
      exact q
    | str z =>
      obtain ⟨t, rfl⟩ := r1
      obtain ⟨t', rfl⟩ := r2
      have q := SeqAt.EqAt.str_str (A := A) (s := s) z t z t'
      rw [beq_self_eq_true] at q
      exact q
    | byt b =>
      obtain ⟨t, rfl⟩ := (show ∃ t, u = Value.bytes b t from r1)
      obtain ⟨t', rfl⟩ := (show ∃ t, v = Value.bytes b t from r2)
      exact fun prog w E Q h => PySem.W.eqBool_bytes (by simpa using h)
    | flt b => exact absurd rfl (hf b)
    | ref a => cases r1; cases r2; exact .same _
    | ty n => cases r1; cases r2; exact .same _
  | @ls n a b xs ys h1 h2 hl _ ih =>
    intro r1 r2 hu
    cases r1; cases r2
    by_cases e : a = b
    · rw [e]; exact .same _
    · obtain ⟨us, ru, ⟨o, m, ho, hc, _, hd⟩, _⟩ := I.list h1
      obtain ⟨vs, rv, ⟨o', m', ho', hc', _, hd'⟩, _⟩ := I.list h2
      have hs : us.toArray.size = vs.toArray.size := by simp only [List.size_toArray]; rw [← ru.length, ← rv.length, hl]
      refine .of_refs e ?_
      have q := SeqAt.RcAt.lists (A := A) (s := s) (e := fun _ => true) ⟨o, ho, hc, m, hd⟩ ⟨o', ho', hc', m', hd'⟩ hs (by omega) (sm_items (A := A.in1) ru rv fun i x y e1 e2 u v s1 s2 => ih i x y e1 e2 s1 s2 (by show A.units + 1 + n < cLine; omega))
      rw [all_true] at q
      exact q
  | @tp n a b xs ys h1 h2 hl _ ih =>
    intro r1 r2 hu
    cases r1; cases r2
    by_cases e : a = b
    · rw [e]; exact .same _
    · obtain ⟨us, ru, ⟨o, ho, hc, m, hd⟩, _⟩ := I.tuple h1
      obtain ⟨vs, rv, ⟨o', ho', hc', m', hd'⟩, _⟩ := I.tuple h2
      have hs : us.toArray.size = vs.toArray.size := by simp only [List.size_toArray]; rw [← ru.length, ← rv.length, hl]
      refine .of_refs e ?_
      have q := SeqAt.RcAt.tuples (A := A) (s := s) (e := fun _ => true) ⟨o, ho, hc, m, hd⟩ ⟨o', ho', hc', m', hd'⟩ (by omega) (sm_items (A := A.in1) ru rv fun i x y e1 e2 u v s1 s2 => ih i x y e1 e2 s1 s2 (by show A.units + 1 + n < cLine; omega))
      rw [all_true, hs, beq_self_eq_true] at q
      exact q
/-- what may stand on both sides of a comparison that is told equal -/
inductive SmT (K : PySem.W.Frag) (H : Hp) : V → V → Prop
  | sc (x : V) (h : scal x x = true) : SmT K H x x
  | ls {a b : Addr} {xs ys : List V} (h1 : SqL K H a xs) (h2 : SqL K H b ys) (hl : xs.length = ys.length) (h : ∀ (i : Nat) x y, xs[i]? = some x → ys[i]? = some y → Sm K H 60 x y) : SmT K H (.ref a) (.ref b)
  | tp {a b : Addr} {xs ys : List V} (h1 : SqT K H a xs) (h2 : SqT K H b ys) (hl : xs.length = ys.length) (h : ∀ (i : Nat) x y, xs[i]? = some x → ys[i]? = some y → Sm K H 60 x y) : SmT K H (.ref a) (.ref b)
  | dk {a b : Addr} {kvs : List (Key × V)} (h1 : H a = some (.dK kvs)) (h2 : H b = some (.dK kvs)) (nd : (kvs.map (·.1)).Nodup) (fl : ∀ p ∈ kvs, flatB p.2 = true) : SmT K H (.ref a) (.ref b)
theorem op_neS (hu : X.A.units + 64 < cLine) : OpR X (compareOp .NotEq) (fun x y H Q => SmT X.K H x y ∧ Q (.bl false) H) := by
  intro pins s σ H x y v u Q I rx ry ⟨h, q⟩
  cases h with
  | sc x h => exact op_ne pins s σ H x x v u Q I rx ry ⟨h, by rw [decide_eq_true rfl]; exact q⟩
  | ls h1 h2 hl h =>
    cases rx; cases ry
    obtain ⟨us, ru, ⟨o, m, ho, hc, _, hd⟩, _⟩ := I.list h1
    obtain ⟨vs, rv, ⟨o', m', ho', hc', _, hd'⟩, _⟩ := I.list h2
    have hs : us.toArray.size = vs.toArray.size := by simp only [List.size_toArray]; rw [← ru.length, ← rv.length, hl]
    have z := SeqAt.RcNeAt.lists (A := X.A) (s := s) (e := fun _ => true) ⟨o, ho, hc, m, hd⟩ ⟨o', ho', hc', m', hd'⟩ hs (by omega) (sm_items (A := X.A.in1) ru rv fun i x y e1 e2 u v s1 s2 => sm_at I (h i x y e1 e2) s1 s2 (by show X.A.units + 1 + 60 < cLine; omega))
    rw [all_true] at z
    exact z X.prog X.w _ _ ⟨.bl false, H, I, rfl, q⟩
  | tp h1 h2 hl h =>
    cases rx; cases ry
    obtain ⟨us, ru, ⟨o, ho, hc, m, hd⟩, _⟩ := I.tuple h1
    obtain ⟨vs, rv, ⟨o', ho', hc', m', hd'⟩, _⟩ := I.tuple h2
    have hs : us.toArray.size = vs.toArray.size := by simp only [List.size_toArray]; rw [← ru.length, ← rv.length, hl]
    have z := SeqAt.RcNeAt.tuples (A := X.A) (s := s) (e := fun _ => true) ⟨o, ho, hc, m, hd⟩ ⟨o', ho', hc', m', hd'⟩ (by omega) (sm_items (A := X.A.in1) ru rv fun i x y e1 e2 u v s1 s2 => sm_at I (h i x y e1 e2) s1 s2 (by show X.A.units + 1 + 60 < cLine; omega))
    rw [all_true, hs, beq_self_eq_true] at z
    exact z X.prog X.w _ _ ⟨.bl false, H, I, rfl, q⟩
  | @dk a b kvs h1 h2 nd fl =>
    cases rx; cases ry
    obtain ⟨_, ya, va, ra, da⟩ := (show ObjOk X.prog X.w H s.heap a (.dK kvs) from I.hok a _ h1)
    obtain ⟨_, yb, vb, rb, db⟩ := (show ObjOk X.prog X.w H s.heap b (.dK kvs) from I.hok b _ h2)
    have hl : va.length = vb.length := ra.length.symm.trans rb.length
    exact PySem.W.keq_ne (knd := mixKind X.prog X.w) (r := true) ya yb da db (by omega) (fun _ => hits_all rb ra fun p hp => ⟨val_nodup nd p hp, fl p hp⟩) (fin_bl I q (by simp [hl]))
theorem op_eqS (hu : X.A.units + 64 < cLine) : OpR X (compareOp .Eq) (fun x y H Q => SmT X.K H x y ∧ Q (.bl true) H) := by
  intro pins s σ H x y v u Q I rx ry ⟨h, q⟩
  cases h with
  | sc x h => exact op_eq pins s σ H x x v u Q I rx ry ⟨h, by rw [decide_eq_true rfl]; exact q⟩
  | ls h1 h2 hl h =>
    cases rx; cases ry
    obtain ⟨us, ru, ⟨o, m, ho, hc, _, hd⟩, _⟩ := I.list h1
    obtain ⟨vs, rv, ⟨o', m', ho', hc', _, hd'⟩, _⟩ := I.list h2
    have hs : us.toArray.size = vs.toArray.size := by simp only [List.size_toArray]; rw [← ru.length, ← rv.length, hl]
    have z := SeqAt.RcAt.lists (A := X.A) (s := s) (e := fun _ => true) ⟨o, ho, hc, m, hd⟩ ⟨o', ho', hc', m', hd'⟩ hs (by omega) (sm_items (A := X.A.in1) ru rv fun i x y e1 e2 u v s1 s2 => sm_at I (h i x y e1 e2) s1 s2 (by show X.A.units + 1 + 60 < cLine; omega))
    rw [all_true] at z
    exact z X.prog X.w _ _ ⟨.bl true, H, I, rfl, q⟩
  | tp h1 h2 hl h =>
    cases rx; cases ry
    obtain ⟨us, ru, ⟨o, ho, hc, m, hd⟩, _⟩ := I.tuple h1
    obtain ⟨vs, rv, ⟨o', ho', hc', m', hd'⟩, _⟩ := I.tuple h2
    have hs : us.toArray.size = vs.toArray.size := by simp only [List.size_toArray]; rw [← ru.length, ← rv.length, hl]
    have z := SeqAt.RcAt.tuples (A := X.A) (s := s) (e := fun _ => true) ⟨o, ho, hc, m, hd⟩ ⟨o', ho', hc', m', hd'⟩ (by omega) (sm_items (A := X.A.in1) ru rv fun i x y e1 e2 u v s1 s2 => sm_at I (h i x y e1 e2) s1 s2 (by show X.A.units + 1 + 60 < cLine; omega))
    rw [all_true, hs, beq_self_eq_true] at z
    exact z X.prog X.w _ _ ⟨.bl true, H, I, rfl, q⟩
  | @dk a b kvs h1 h2 nd fl =>
    exact op_eq_dict (by omega) pins s σ H _ _ v u Q I rx ry ⟨a, b, kvs, rfl, rfl, h1, h2, nd, fl, q⟩
/-- isinstance(e, c), e an error that is held as a value -/
def rIsErr (K : PySem.W.Frag) : List V → Hp → VK → Prop := fun xs H Q => ∃ (a C : Addr) (d : Option Addr) (fs : List (Str × V)) (c : V) (u : Value) (b : Bool), xs = [.ref a, c] ∧ H a = some (exo a C d) ∧ (∀ dd, d = some dd → H dd = some (exd dd fs)) ∧ ExcC K C ∧ ClsV c u ∧ PySem.W.kitOne K (.ref C) u = some b ∧ Q (.bl b) H
theorem call_isErr : CallR X (.builtin "isinstance") (rIsErr X.K) := by
  intro pins s σ H xs us Q I r h
  obtain ⟨a, C, d, fs, c, u, b, rfl, ea, ed, T, k, e, q⟩ := h
  obtain ⟨u1, u2, rfl, r1, r2⟩ := vals2 r
  have e2 := k.eq r2
  subst e2
  cases r1
  obtain ⟨t1, ha⟩ := exo_at I.hok ea
  have hcl : (PySem.W.clsIn X.K C).isSome = true := by
    obtain ⟨cd, hc, _⟩ := PySem.W.any_some T.hd
    rw [hc]
    rfl
  cases d with
  | none => exact PySem.W.kia_one (PySem.W.kitx_exc (od := none) hcl T.hg T.hk T.hs T.ha T.hn T.ht T.hm) I.kIn (show PySem.W.InstAt s.heap a _ C none from ⟨ha, rfl, rfl, trivial⟩) e (fun z => nomatch z) fun tk => ⟨.bl b, H, I.tok tk, rfl, q⟩
  | some dd =>
    obtain ⟨mA, ⟨od, es, ep, ho, hr⟩, _⟩ := exd_at I.hok (ed dd rfl)
    exact PySem.W.kia_one (PySem.W.kitx_exc (od := some od) hcl T.hg T.hk T.hs T.ha T.hn T.ht T.hm) I.kIn (show PySem.W.InstAt s.heap a _ C (some od) from ⟨ha, rfl, rfl, ho⟩) e (fun z => nomatch z) fun tk => ⟨.bl b, H, I.tok tk, rfl, q⟩
end
end L2

set_option Elab.async false
set_option linter.all false
set_option maxRecDepth 100000
set_option maxHeartbeats 4000000
namespace L2
open PySem EK
theorem alloc {H : Hp} {p : Addr} {o : HO} (hp : H p = none) : ∃ H1, upd H p o = H1 ∧ Same H H1 ∧ H1 p = some o :=
  ⟨_, rfl, fun b u e => by rw [upd_ne (ne_of_none e hp)]; exact e, upd_same⟩
/-- an error of the class at C stands at a, its one value v -/
def ErrAt (H : Hp) (a d C : Addr) (f : Str) (v : V) : Prop := H a = some (exo a C (some d)) ∧ H d = some (exd d [(f, v)])
theorem ErrAt.keep {H H' : Hp} {a d C : Addr} {f : Str} {v : V} (e : ErrAt H a d C f v) (s : Same H H') : ErrAt H' a d C f v := ⟨s _ _ e.1, s _ _ e.2⟩
theorem alloc_err {H : Hp} {a d C : Addr} {f : Str} {v : V} (ha : H a = none) (hd : H d = none) (hne : d ≠ a) : ∃ H1, upd (upd H d (exd d [(f, v)])) a (exo a C (some d)) = H1 ∧ Same H H1 ∧ ErrAt H1 a d C f v :=
  ⟨_, rfl, fun b u e => by rw [upd_ne (ne_of_none e ha), upd_ne (ne_of_none e hd)]; exact e, upd_same, by rw [upd_ne hne, upd_same]⟩
theorem look1 (f : Str) (v : V) : List.lookup f [(f, v)] = some v := by rw [lookup_put, if_pos rfl]
theorem _root_.EK.ErrTxt.xf {P : Program} {K : PySem.W.Frag} {mg : Str → Option Value} {x f : Str} {C fI : Addr} (T : ErrTxt P K mg x f C fI) : XfC K C := ⟨T.ga, T.gg, T.exC, T.hdC⟩
end L2

set_option Elab.async false
set_option linter.all false
set_option maxRecDepth 100000
set_option maxHeartbeats 4000000
/-! RaiseKit: an error raised; several clauses, with and without names; what a lambda handed over says. -/
namespace L2
open PySem PySem.Spec PyProof.Rows EK
section
variable {X : Cx} {C fI : Addr} {x f : Str}
/-- x(e), made to be raised: its own dict, new, holds the value -/
def tErrMk (C : Addr) (f : Str) (ta : TA) : St → Hp → XK → Prop := fun σ H Q => ta σ H fun vs H1 => ∃ v, vs = [v] ∧ ∀ d, H1 d = none → Q (.ref C) (some d) (upd H1 d (.xd [(f, v)]))
theorem pmk_err {a : Expr} {ta : TA} {p pos : Pos} {k : Nat} (T : ErrTxt X.prog X.K X.mg x f C fI) (hr : Room k X.A) (ha : PA X [a] ta) (hg : Gl X x) (hd : (x == ("__debug__" : Str)) = false := by decide)
    (he : starEach (a :: []) X.env = (false, eval a X.env) :: starEach [] X.env := by rfl) (hpl : (backTo pos (starEach [] X.env)).any (·.1) = false := by rfl) :
    PMk X (.Call (.Name x p) [a] [] pos) (tErrMk C f ta) := by
  intro pins s σ H Q I h
  refine wpAny_Call_Name_kw (ld_glob I hg T.gC ?_ hd)
  refine PySem.W.callWith_K (h₀ := X.base) I.ok.mod.kin T.kC (thn (ha.run pos pins s σ H _ I h) fun us s1 hh => ?_) he hpl
  obtain ⟨vs, H1, I1, r1, v, ev, q1⟩ := hh
  subst ev
  refine ⟨I1.kIn, ?_⟩
  cases r1 with
  | cons rv rn =>
    rename_i v' us'
    cases rn
    show wpAny _ _ (call (.ref C) [v']) _ _ _
    have hlim := I1.nolimit
    obtain ⟨hp, g, dr, tk, os⟩ := s1
    obtain ⟨mb, hb1, hb2⟩ := I1.mod.blt
    refine wpAny_call (err_made T I1.kIn hlim (I1.mod.glob.keeps I1.bk) ⟨mb, hb1.keeps I1.bk, hb2⟩ (by have := hr.dp; omega) fun h' tk' e d M => ?_)
    show MkP X pins σ Q (.ref e) ⟨h', g, dr, tk', os⟩
    obtain ⟨t1, hoe⟩ := M.obj
    obtain ⟨G, g1, g2⟩ := restrict h' fun b => decide (b ≠ e)
    have gk : ∀ b, b ≠ e → G.get? b = h'.get? b := fun b hb => g1 b (decide_eq_true hb)
    have ge : G.get? e = none := g2 e (by simp)
    have gs : ∀ b o, G.get? b = some o → h'.get? b = some o := fun b o q => by
      by_cases hbe : b = e
      · rw [hbe, ge] at q
        cases q
      · exact (gk b hbe).symm.trans q
    have old : ∀ b o, hp.get? b = some o → G.get? b = some o := fun b o q => (gk b (Nat.ne_of_lt (Nat.lt_of_lt_of_le (Heap.lt_size q) M.new))).trans (M.keep b o q)
    have ob : ObjOk X.prog X.w (upd H1 d (.xd [(f, v)])) G d (.xd [(f, v)]) := ⟨_, M.ns.at (fun o q => (gk d M.dne).trans q), relO_one rv⟩
    have J : Inv X pins σ (upd H1 d (.xd [(f, v)])) ⟨G, g, dr, tk', os⟩ := I1.laid (t' := tk') old M.dbig ob
    have ne : (upd H1 d (.xd [(f, v)])) e = none := by
      rw [upd_ne (Ne.symm M.dne)]
      exact I1.hok.fresh M.new
    exact ⟨e, _, _, ⟨G, g, dr, tk', os⟩, _, .ref C, some d, rfl, J, gs, ge, hoe, ⟨rfl, rfl⟩, rfl, rfl, ne, rfl, I1.bare, raises_own T.exC T.tyC, q1 d (I1.hok.fresh M.dbig)⟩
theorem ps_raiseErr {a : Expr} {ta : TA} {W : WX} {p pos pos2 : Pos} {k : Nat} (hc : X.calm = true) (T : ErrTxt X.prog X.K X.mg x f C fI) (hr : Room k X.A) (tk : Takes X W) (ha : PA X [a] ta) (hg : Gl X x) (hd : (x == ("__debug__" : Str)) = false := by decide)
    (he : starEach (a :: []) X.env = (false, eval a X.env) :: starEach [] X.env := by rfl) (hpl : (backTo pos (starEach [] X.env)).any (·.1) = false := by rfl) :
    PS X (.Raise (some (.Call (.Name x p) [a] [] pos)) none pos2) (fun _ σ H => tErrMk C f ta σ H fun cls d H' => W cls d σ H') := ps_raise hc tk (pmk_err T hr ha hg hd he hpl)
end
/-! ### try with several clauses -/
structure Cl where
  c : Value
  i : Option Nat
  ts : Addr → Value → Option Addr → TS
def Ends.drop (D : Ends) (i : Nat) : Ends := { nx := fun s h => D.nx (s.set i none) h, rt := D.rt, bk := fun s h => D.bk (s.set i none) h, ct := fun s h => D.ct (s.set i none) h }
def Cl.run (k : Cl) (a : Addr) (cls : Value) (d : Option Addr) : TS := fun D σ H => match k.i with
  | none => k.ts a cls d D σ H
  | some i => i < σ.length → k.ts a cls d (D.drop i) (σ.set i (some (.ref a))) H
def wCl (K : PySem.W.Frag) (Wout : WX) (D : Ends) : List Cl → WX
  | [] => Wout
  | k :: r => fun cls d σ H => ∃ b, PySem.W.exmOne K cls k.c = some b ∧ (b = true → ∀ a, H a = none → k.run a cls d D σ H) ∧ (b = false → wCl K Wout D r cls d σ H)
inductive ClOk (X : Cx) : List ExceptHandler → List Cl → Prop
  | nil : ClOk X [] []
  | un {x : Str} {c : Value} {ts : Addr → Value → Option Addr → TS} {b1 : Stmt} {suite : List Stmt} {np pos' : Pos} {hds : List ExceptHandler} {l : List Cl} (hc : Names X x c)
      (hsu : ∀ (a : Addr) (oe : Obj) (cls : Value) (d : Option Addr) (pn : List (Addr × Obj)), Zc cls d oe → (∃ vs, oe.data = .fields vs) → PSs (X.suite a ((a, oe) :: pn)) (b1 :: suite) (ts a cls d)) (r : ClOk X hds l) :
      ClOk X (.ExceptHandler (some (.Name x np)) none (b1 :: suite) pos' :: hds) (⟨c, none, ts⟩ :: l)
  | as {x n : Str} {i : Nat} {c : Value} {ts : Addr → Value → Option Addr → TS} {b1 : Stmt} {suite : List Stmt} {np pos' : Pos} {hds : List ExceptHandler} {l : List Cl} (hi : X.N[i]? = some n) (hln : X.env.kindOf n = some .local) (hc : Names X x c)
      (hsu : ∀ (a : Addr) (oe : Obj) (cls : Value) (d : Option Addr) (pn : List (Addr × Obj)), Zc cls d oe → (∃ vs, oe.data = .fields vs) → PSs (X.suite a ((a, oe) :: pn)) (b1 :: suite) (ts a cls d)) (r : ClOk X hds l) :
      ClOk X (.ExceptHandler (some (.Name x np)) (some n) (b1 :: suite) pos' :: hds) (⟨c, some i, ts⟩ :: l)
section
variable {X : Cx} {body : List Stmt} {hd0 : ExceptHandler} {hds : List ExceptHandler} {l : List Cl} {pos : Pos} {tb : WX → TS} {Wout : WX} {pins : List (Addr × Obj)} {s : Shared} {D : Ends}
/-- behind a suite: its end, the name gone -/
theorem sp_unsuite {a : Addr} {q : Addr × Obj} {f : Flow} (ok : X.Ok) (h : SP (X.suite a (q :: (X.pn ++ pins))) [] D f s) : SP X pins D f s := by
  cases f with
  | next =>
    obtain ⟨t, h1, J, z⟩ := h
    exact ⟨t, h1, J.unsuite ok, z⟩
  | brk =>
    obtain ⟨t, h1, J, z⟩ := h
    exact ⟨t, h1, J.unsuite ok, z⟩
  | cont =>
    obtain ⟨t, h1, J, z⟩ := h
    exact ⟨t, h1, J.unsuite ok, z⟩
  | ret u =>
    obtain ⟨v, t, h1, J, r, z⟩ := h
    exact ⟨v, t, h1, J.unsuite ok, r, z⟩
theorem sp_gone {n : Str} {i : Nat} {f : Flow} {pos' : Pos} (hN : X.N.Nodup) (hi : X.N[i]? = some n) (hln : X.env.kindOf n = some .local) (h : SP X pins (D.drop i) f s) :
    wpAny (model X.prog X.w) X.A (do bindName X.env n .none; unbindBehindTheSuite X.env n pos') (fun _ s7 => SP X pins D f s7) X.xe s := by
  cases f with
  | next =>
    obtain ⟨t, h1, J, z⟩ := h
    exact gone_ok J hN hi hln fun s7 J7 => ⟨_, _, J7, z⟩
  | brk =>
    obtain ⟨t, h1, J, z⟩ := h
    exact gone_ok J hN hi hln fun s7 J7 => ⟨_, _, J7, z⟩
  | cont =>
    obtain ⟨t, h1, J, z⟩ := h
    exact gone_ok J hN hi hln fun s7 J7 => ⟨_, _, J7, z⟩
  | ret u =>
    obtain ⟨v, t, h1, J, r, z⟩ := h
    exact gone_ok J hN hi hln fun s7 J7 => ⟨_, _, _, J7, r, z⟩
theorem names_ld {a : Addr} {oe : Obj} {pn : List (Addr × Obj)} {σ : St} {H : Hp} {x : Str} {c : Value} {np : Pos} (S : Inv (X.suite a ((a, oe) :: pn)) [] σ H s) (hc : Names X x c) {Q : Value → Shared → Prop} {E : Value → Shared → Prop} (q : Q c s) :
    wpAny (model X.prog X.w) (X.A.mark (some (.ref a))) (eval (.Name x np) X.env) Q E s := by
  obtain ⟨h1, h2, h3⟩ := hc
  rcases h3 with h3 | ⟨h3, h4, h5⟩
  · exact ld_glob (X := X.suite a ((a, oe) :: pn)) S h1 h3 q h2
  · exact ld_blt (X := X.suite a ((a, oe) :: pn)) S h1 h3 h4 q h5 h2
theorem ps_tryC (hs : X.stack = X.env :: X.outer) (hf : X.env.frame = some X.env.locals) (hN : X.N.Nodup) (tk : Takes X Wout)
    (hb : ∀ (W : WX) (pn : List (Addr × Obj)) (xe : Value → Shared → Prop), Takes (X.tr pn xe) W → PassesOwn (model X.prog X.w) X.A X.env xe → PSs (X.tr pn xe) body (tb W))
    (hh : ClOk X (hd0 :: hds) l) : PS X (.Try body (hd0 :: hds) [] [] pos) (fun D σ H => tb (wCl X.K Wout D l) D σ H) := by
  refine ⟨fun pins s σ H D I h => ?_⟩
  have ok := I.ok
  have hfr : X.A.frames = some (X.env :: X.outer) := ok.frames.trans (congrArg some hs)
  refine wpAny_Try_except (wpAny_mono ((hb (wCl X.K Wout D l) (X.pn ++ pins) _ (fun u s' xx => ?_) PassesOwn.looking).run [] s σ H D (I.toTry _) h) (fun fl s1 hsp => ?_) fun e s1 he => he)
  · -- an exception has come
    obtain ⟨a, B, sI, pins', σ', H', cls, d, rfl, J0, nb, up, sky, na, os, ag, w⟩ := xx
    have J : Inv X pins σ' H' sI := J0.ofTry ok
    rw [hs] at sky
    show wpAny (model X.prog X.w) X.A (noteFrame (.ref a) X.env) _ _ _
    refine Sky.land Zc.steady hfr hf sky fun h3 fl3 up3 => ?_
    have J3 : Inv X pins σ' H' { s' with heap := h3 } := J.landed nb fl3.1 (up.trans up3) os ag
    obtain ⟨oe3, vs3, he3, hz3, hd3⟩ := fl3.there
    have ff := fl3.2.2.1
    have away : ∀ b ∈ frs (X.env :: X.outer), a ≠ b := fun b hm z => by
      obtain ⟨_, o', e', hnf⟩ := ff.mem hm
      rw [← z, he3] at e'
      cases e'
      exact hnf _ hd3
    have nL : a ≠ X.env.locals := away _ (List.mem_filterMap.mpr ⟨X.env, List.mem_cons_self, hf⟩)
    have nF : a ∉ X.fs := fun hm => by
      obtain ⟨e, he, q⟩ := List.mem_filterMap.mp hm
      exact away a (List.mem_filterMap.mpr ⟨e, List.mem_cons_of_mem _ he, q⟩) rfl
    have S3 := J3.suite he3 hd3 na nL nF
    have LT : PySem.W.Looks (model X.prog X.w) h3 (typeOf (.ref a)) cls := fun A Q E s k q => wpAny_typeOf_ref (k _ _ he3) (by rw [hz3.1]; exact q)
    have test : ∀ {x : Str} {c : Value} {np : Pos}, Names X x c → ∀ {Q : Value → Shared → Prop} {E : Value → Shared → Prop}, Q c { s' with heap := h3 } → wpAny (model X.prog X.w) (X.A.mark (some (.ref a))) (eval (.Name x np) X.env) Q E { s' with heap := h3 } := fun hc => names_ld S3 hc
    have go : ∀ {hs2 : List ExceptHandler} {l2 : List Cl}, ClOk X hs2 l2 → wCl X.K Wout D l2 cls d σ' H' →
        wpAny (model X.prog X.w) X.A (handleBy (.ref a) X.env hs2) (SP X pins D) X.xe { s' with heap := h3 } := by
      intro hs2 l2 hk
      induction hk with
      | nil =>
        intro w
        refine wpAny_handleBy_nil ?_
        obtain ⟨_, _, _, oe, vs, T, oT, ts', he, hz, hd, h1, hr⟩ := id fl3
        unfold PySem.passOn
        refine wpAny_bind (wpAny_field he hd h1 ?_)
        rw [if_neg (show ¬ ((Value.ref T == Value.none) = true) from by simp)]
        have fin : wpAny (model X.prog X.w) X.A (setFlight (.ref a) X.env.frame) (fun _ s4 => wpAny (model X.prog X.w) X.A (throw (.ref a) : Sem Flow) (SP X pins D) X.xe s4) X.xe { s' with heap := h3 } := by
          rw [hf]
          exact HandSPX.setFlight_upZ fl3 fun h4 hh4 up4 => wpAny_throw (tk _ _ ⟨a, B, sI, pins, σ', H', cls, d, rfl, J, nb, (up.trans up3).trans up4, .inr (.inr (by rw [hs]; exact hh4)), na, os, ag, w⟩)
        first
          | exact wpAny_bind (wpAny_pure (wpAny_bind fin))
          | exact wpAny_bind fin
      | @un x c ts b1 suite np pos' hds2 l2 hc hsu r ih =>
        intro ⟨b, hb1, hyes, hno⟩
        refine wpAny_handleBy_cons (codeAny_handlers_test (test hc ((PySem.W.exm_one (M := model X.prog X.w) J3.kIn LT hb1).here ?_))) (by intro q; cases q)
        cases b with
        | false => exact ih (hno rfl)
        | true =>
          refine codeAny_handlers_suite (HandSPX.lands_againZ fl3 fun h4 fl4 up4 => ?_)
          have J4 : Inv X pins σ' H' { s' with heap := h4 } := J.landed nb fl4.1 ((up.trans up3).trans up4) os ag
          obtain ⟨oe4, vs4, he4, hz4, hd4⟩ := fl4.there
          exact wpAny_mono ((hsu a oe4 cls d (X.pn ++ pins) hz4 ⟨_, hd4⟩).run [] _ _ H' _ (J4.suite he4 hd4 na nL nF) (hyes rfl a na)) (fun f s6 hsp => sp_unsuite ok hsp) (fun _ _ z => False.elim z)
      | @as x n i c ts b1 suite np pos' hds2 l2 hi hln hc hsu r ih =>
        intro ⟨b, hb1, hyes, hno⟩
        refine wpAny_handleBy_cons (codeAny_handlers_test (test hc ((PySem.W.exm_one (M := model X.prog X.w) J3.kIn LT hb1).here ?_))) (by intro q; cases q)
        cases b with
        | false => exact ih (hno rfl)
        | true =>
          refine codeAny_handlers_suite_as (HandSPX.lands_againZ fl3 fun h4 fl4 up4 => ?_)
          have J4 : Inv X pins σ' H' { s' with heap := h4 } := J.landed nb fl4.1 ((up.trans up3).trans up4) os ag
          obtain ⟨oe4, vs4, he4, hz4, hd4⟩ := fl4.there
          refine store_ok (X := X.suite a ((a, oe4) :: (X.pn ++ pins))) (v := .ref a) (J4.suite he4 hd4 na nL nF) hN hi (.inl hln) rfl (fun s5 S5 => ?_) (.inr hln)
          have hil : i < σ'.length := by rw [J.len]; exact (List.getElem?_eq_some_iff.mp hi).1
          exact wpAny_mono ((hsu a oe4 cls d (X.pn ++ pins) hz4 ⟨_, hd4⟩).run [] s5 _ H' _ S5 (hyes rfl a na hil)) (fun f s6 hsp => sp_gone hN hi hln (sp_unsuite ok hsp)) (fun _ _ z => False.elim z)
    exact go hh w
  · cases fl with
    | next =>
      obtain ⟨t, h1, J', q⟩ := hsp
      exact wpAny_execs_nil ⟨t, h1, J'.ofTry ok, q⟩
    | brk =>
      obtain ⟨t, h1, J', q⟩ := hsp
      exact ⟨t, h1, J'.ofTry ok, q⟩
    | cont =>
      obtain ⟨t, h1, J', q⟩ := hsp
      exact ⟨t, h1, J'.ofTry ok, q⟩
    | ret u =>
      obtain ⟨v, t, h1, J', r, q⟩ := hsp
      exact ⟨v, t, h1, J'.ofTry ok, r, q⟩
end
end L2

set_option Elab.async false
set_option linter.all false
set_option maxRecDepth 100000
set_option maxHeartbeats 4000000
/-! SaidKit: what a lambda handed over tells, or which of two errors it raises, as a pair. -/
namespace L2
open PySem PySem.Spec PyProof.Rows EK LamX
/-- an error of cls with its dict d: of the class at C, its one value told as (m, value) -/
def errTold (C : Addr) (f m : Str) (Q : VK) : XK := fun cls d H => cls = .ref C ∧ ∃ (dd : Addr) (v : V), d = some dd ∧ H dd = some (.xd [(f, v)]) ∧ ∀ p, H p = none → Q (.ref p) (upd H p (.tup [.str m, v]))
def wSaid (K : PySem.W.Frag) (C1 C2 : Addr) (f1 f2 m1 m2 : Str) (Q : VK) : XK := fun cls d H => ∃ b1, PySem.W.exmOne K cls (.ref C1) = some b1 ∧ (b1 = true → errTold C1 f1 m1 Q cls d H) ∧
  (b1 = false → ∃ b2, PySem.W.exmOne K cls (.ref C2) = some b2 ∧ (b2 = true → errTold C2 f2 m2 Q cls d H) ∧ (b2 = false → False))
def TSaid (K : PySem.W.Frag) (C1 C2 : Addr) (f1 f2 m1 m2 : Str) : (XK → Hp → VK → Prop) → Hp → VK → Prop := fun tl H Q =>
  tl (wSaid K C1 C2 f1 f2 m1 m2 Q) H fun v H1 => [V.str "told", v].length ≤ sizeLine ∧ ∀ p, H1 p = none → Q (.ref p) (upd H1 p (.tup [.str "told", v]))
theorem said_gives {X : Cx} {Ng : List Str} {x a e1 e2 n1 n2 q f1 f2 m1 m2 : Str} {sg : Scope} {g C1 C2 : Addr} {cdg : Value} {j0 j1 j2 : Nat} {p1 p2 p3 p4 p5 p8 a1 a2 a3 a4 a5 a6 a7 b1 b2 b3 b4 b5 b6 b7 : Pos} {k0 k1 k2 : Nat}
    (hN : Ng.Nodup) (hn1 : Ng[1]? = some n1) (hl1 : sg.names.lookup n1 = some .local) (hn2 : Ng[1]? = some n2)
    (ge1 : sg.names.lookup e1 = some .globalImplicit) (hm1 : X.mg e1 = some (.ref C1)) (de1 : (e1 == ("__debug__" : Str)) = false)
    (ge2 : sg.names.lookup e2 = some .globalImplicit) (hm2 : X.mg e2 = some (.ref C2)) (de2 : (e2 == ("__debug__" : Str)) = false)
    (T1 : XfC X.K C1) (T2 : XfC X.K C2) (no1 : PySem.W.findIn X.K (.ref C1) f1 = some none) (no2 : PySem.W.findIn X.K (.ref C2) f2 = some none) (dn : (n1 == ("__debug__" : Str)) = false) (cn : (n1 == ("__classdict__" : Str)) = false) (sk : sg.kind = .function)
    (h0 : ∀ f : Addr, (L2.start Ng [V.ref f])[0]? = some (some (V.ref f))) (hz1 : ∀ f : Addr, (L2.start Ng [V.ref f])[1]? = some none) :
    GivesTo X Ng x sg g cdg [.Try [.Return (some (.Tuple [.Constant (.str "told") j0 p1, .Call (.Name a p2) [] [] p3] k0 p4)) p5]
      [.ExceptHandler (some (.Name e1 a1)) (some n1) [.Return (some (.Tuple [.Constant (.str m1) j1 a2, .Attribute (.Name n1 a3) f1 a4] k1 a5)) a6] a7,
       .ExceptHandler (some (.Name e2 b1)) (some n2) [.Return (some (.Tuple [.Constant (.str m2) j2 b2, .Attribute (.Name n2 b3) f2 b4] k2 b5)) b6] b7] [] [] p8] a q (TSaid X.K C1 C2 f1 f2 m1 m2) := by
  obtain rfl : n1 = n2 := Option.some.inj (hn1.symm.trans hn2)
  intro f c' s H Q tl act hc h
  have hlen : 1 < (L2.start Ng [V.ref f]).length := by
    have z := hz1 f
    exact (List.getElem?_eq_some_iff.mp z).1
  have gl1 : Gl (cxOf C8.CX0 X.prog X.w X.K X.mg X.base Ng x sg g cdg X.A X.stack s H C8.E0).nox e1 := ge1
  have gl2 : Gl (cxOf C8.CX0 X.prog X.w X.K X.mg X.base Ng x sg g cdg X.A X.stack s H C8.E0).nox e2 := ge2
  refine ⟨_, pss_one (ps_tryC (X := (cxOf C8.CX0 X.prog X.w X.K X.mg X.base Ng x sg g cdg X.A X.stack s H C8.E0).nox)
      (tb := fun W D σ H => ∃ Ech : XK, (∀ cls d σ' H', Ech cls d H' → W cls d σ' H') ∧ σ[0]? = some (some (.ref f)) ∧ H c' = some (CodeO c' q) ∧ tl Ech H (fun v H1 => [V.str "told", v].length ≤ sizeLine ∧ ∀ p, H1 p = none → D.rt (.ref p) (upd H1 p (.tup [.str "told", v]))))
      (l := [⟨.ref C1, some 1, fun a cls d => tRet (tTup (tCons (tC (.str m1)) (tCons (tXf a cls d C1 f1 (tVar 1)) tNil)))⟩, ⟨.ref C2, some 1, fun a cls d => tRet (tTup (tCons (tC (.str m2)) (tCons (tXf a cls d C2 f2 (tVar 1)) tNil)))⟩])
      rfl rfl hN takes0 (fun W pn xe tk _ => ?_)
      (ClOk.as hn1 (by show Env.kindOf _ n1 = some NameKind.local; exact hl1) ⟨gl1, de1, .inl hm1⟩ (fun a oe cls d pn hz hf => pss_one (ps_ret (pe_tup (pa_cons pe_str (pa_cons (pe_xf T1 no1 hz hf (pe_var (i := 1) hn1 (Or.inl hl1) dn cn)) pa_nil)))))
        (ClOk.as hn1 (by show Env.kindOf _ n1 = some NameKind.local; exact hl1) ⟨gl2, de2, .inl hm2⟩ (fun a oe cls d pn hz hf => pss_one (ps_ret (pe_tup (pa_cons pe_str (pa_cons (pe_xf T2 no2 hz hf (pe_var (i := 1) hn1 (Or.inl hl1) dn cn)) pa_nil))))) .nil))), ?_⟩
  · refine ⟨fun pins s' σ H' D I h' => ?_⟩
    obtain ⟨Ech, hW, h1, h2, h3⟩ := h'
    have hp := act W pn xe Ech p2 p3 tk hW
    have hq : PSs ((cxOf C8.CX0 X.prog X.w X.K X.mg X.base Ng x sg g cdg X.A X.stack s H C8.E0).tr pn xe) [.Return (some (.Tuple [.Constant (.str "told") j0 p1, .Call (.Name a p2) [] [] p3] k0 p4)) p5] _ := pss_one (ps_ret (pe_tup (pa_cons pe_str (pa_cons hp pa_nil))))
    exact hq.run pins s' σ H' D I ⟨h1, h2, h3⟩
  · have hset : ∀ (σ : L2.St) (y : V), 1 < σ.length → (σ.set 1 (some y))[1]? = some (some y) := fun σ y h => by rw [List.getElem?_set_self h]
    have two : ∀ x y : V, [x, y].length ≤ sizeLine := fun x y => by show 2 ≤ sizeLine; decide
    refine ⟨wSaid X.K C1 C2 f1 f2 m1 m2 Q, fun cls d σ' H' ⟨b1, e1, y1, z1⟩ => ⟨b1, e1, fun hb a ha hl => ?_, fun hb => ?_⟩, h0 f, hc, h⟩
    · obtain ⟨ec, dd, v, ed, hd, q⟩ := y1 hb
      exact ⟨_, hset _ _ hl, rfl, ec, dd, _, v, ed, hd, look1 _ _, two _ _, q⟩
    · obtain ⟨b2, e2, y2, z2⟩ := z1 hb
      refine ⟨b2, e2, fun hb2 a ha hl => ?_, fun hb2 => z2 hb2⟩
      obtain ⟨ec, dd, v, ed, hd, q⟩ := y2 hb2
      exact ⟨_, hset _ _ hl, rfl, ec, dd, _, v, ed, hd, look1 _ _, two _ _, q⟩
end L2

set_option Elab.async false
set_option linter.all false
set_option maxRecDepth 100000
set_option maxHeartbeats 4000000
/-! ValKit: d.values(), sum and list of it; math.comb. -/
namespace L2
open PySem PySem.Spec PyProof.Rows
section
variable {X : Cx}
abbrev vwO (p d : Addr) : HO := viewO "dict_values" p d
def rVals : V → List V → Hp → VK → Prop := fun x xs H Q => ∃ (a : Addr) (kvs : List (Key × V)), x = .ref a ∧ xs = [] ∧ H a = some (.dK kvs) ∧ ∀ p, H p = none → Q (.ref p) (upd H p (vwO p a))
theorem mt_values : MtR X "dict.values" rVals := by
  intro pins s σ H x xs v us Q I rx rxs h
  obtain ⟨a, kvs, rfl, rfl, ha, q⟩ := h
  cases rx
  cases rxs
  obtain ⟨_, hsys, vs, rel, dof⟩ := dk_of I.hok ha
  refine call_meetsIn F.slot_dict_values dof.typeIs F.entry_dict_values (F.args_dict_values_1 _) (meets_dict_values (mixKind X.prog X.w) a hsys) ⟨⟨vs, dof⟩, ?_⟩
  exact ⟨.ref s.heap.objs.size, upd H s.heap.objs.size (vwO s.heap.objs.size a), I.laid (t' := s.toks) (fun b u e => Heap.get?_push_of_some _ e) (Nat.le_refl _) (viewO_ok (Heap.get?_push_size _ rfl)), rfl, q _ (I.hok.fresh (Nat.le_refl _))⟩
theorem preSum_ints (ns : List Int) : ∀ j, preSum (fun i => ns.getD i 0) j = (ns.take j).sum := by
  intro j
  induction j with
  | zero => simp [preSum]
  | succ j ih =>
    rw [preSum, ih]
    by_cases h : j < ns.length
    · rw [List.getD_eq_getElem?_getD, List.getElem?_eq_getElem h, List.take_succ_eq_append_getElem h, List.sum_append]
      simp only [Option.getD_some, List.sum_cons, List.sum_nil, Int.add_zero]
    · rw [List.take_of_length_le (by omega), List.take_of_length_le (by omega), List.getD_eq_getElem?_getD, List.getElem?_eq_none (by omega)]
      simp
def rSumV : List V → Hp → VK → Prop := fun xs H Q => ∃ (p a : Addr) (kvs : List (Key × V)) (ns : List Int), xs = [.ref p] ∧ H p = some (vwO p a) ∧ H a = some (.dK kvs) ∧ kvs.map (·.2) = ns.map V.int ∧ Q (.int ns.sum) H
theorem cr_sumV (hc : X.calm = true) : CallR X (.builtin "sum") rSumV := by
  intro pins s σ H xs us Q I r h
  obtain ⟨p, a, kvs, ns, rfl, hp, ha, hv, q⟩ := h
  rw [Vals.ref1 r]
  have vw : s.heap.get? p = some (DSub.viewOb "dict_values" a) := (show ObjOk X.prog X.w H s.heap p (vwO p a) from I.hok p _ hp).1
  obtain ⟨_, hsys, vs, rel, dof⟩ := dk_of I.hok ha
  obtain ⟨ep, dat⟩ := dof.dictAt
  obtain ⟨ob, es, ho, ex, hdat, hko, hpr, hnd⟩ := id dat
  have hlt : a < s.heap.objs.size := Heap.lt_size ho
  have hlv : vs.length = ns.length := by
    have e1 := congrArg List.length hv
    rw [List.length_map, List.length_map] at e1
    rw [← e1]
    exact (KV.length rel).symm
  have hval : ∀ (i : Nat) (v : Value), (∃ k, vs[i]? = some (k, v)) → ∃ t, v = Value.int (ns.getD i 0) t := fun i v ⟨k, hk⟩ => by
    obtain ⟨x, h1, h2⟩ := KV.at' rel hk
    have e1 : (kvs.map (·.2))[i]? = some x := by rw [List.getElem?_map, h1] <;> rfl
    rw [hv, List.getElem?_map] at e1
    obtain ⟨j, hj, e2⟩ := Option.map_eq_some_iff.mp e1
    subst e2
    obtain ⟨t, e3⟩ := h2
    refine ⟨t, ?_⟩
    rw [e3, List.getD_eq_getElem?_getD, hj] <;> rfl
  refine call_sum_walkAnyS (wpAny_pyIter_values (v := p) (d := a) ⟨_, vw, rfl, rfl⟩ dat ?_)
  refine ⟨_, _, _, _, _, _, _, fun i => ns.getD i 0, rfl, (Walks.dictValues (knd := mixKind X.prog X.w) (A := X.A.in1) (I.ok.hd hc) s.heap.objs.size a (Nat.ne_of_lt hlt) vs ep).toS,
    ⟨⟨_, Heap.get?_push_size _ rfl, rfl, rfl⟩, dat.keep fun b u e => Heap.get?_push_of_some _ e⟩, fun b hb => ?_, hval, fun s' t' hm => ?_⟩
  · rcases List.mem_cons.mp hb with e | hb
    · rw [e, Heap.size_push]
      exact Nat.lt_succ_self _
    · rw [List.mem_singleton.mp hb, Heap.size_push]
      exact Nat.lt_succ_of_lt hlt
  · have hk : ∀ b o, s.heap.get? b = some o → s'.heap.get? b = some o := fun b o e =>
      hm.heap b o (fun hI => absurd (Heap.lt_size e) (by rw [List.mem_singleton.mp hI]; exact Nat.lt_irrefl _)) (Heap.get?_push_of_some _ e)
    rw [Moved.eq_with hm]
    refine ⟨.int _, H, I.kept (t' := s'.toks) hk, ⟨t', rfl⟩, ?_⟩
    rw [preSum_ints, hlv, List.take_length]
    exact q
def rListV : List V → Hp → VK → Prop := fun xs H Q => ∃ (p a : Addr) (kvs : List (Key × V)), xs = [.ref p] ∧ H p = some (vwO p a) ∧ H a = some (.dK kvs) ∧ ∀ r, H r = none → Q (.ref r) (upd H r (.lst (kvs.map (·.2))))
theorem vals_at {us : List Value} {xs : List V} (hl : us.length = xs.length) (h : ∀ (i : Nat) (u : Value), us[i]? = some u → ∃ x : V, xs[i]? = some x ∧ RelV x u) : Vals xs us := by
  induction xs generalizing us with
  | nil =>
    cases us with
    | nil => exact .nil
    | cons u us => cases hl
  | cons x xs ih =>
    cases us with
    | nil => cases hl
    | cons u us =>
      obtain ⟨y, e, r⟩ := h 0 u rfl
      cases e
      exact .cons r (ih (by simpa using hl) fun i u hu => by simpa using h (i + 1) u (by simpa using hu))
theorem cr_listV (hc : X.calm = true) : CallR X (.type "list") rListV := by
  intro pins s σ H xs us Q I r h
  obtain ⟨p, a, kvs, rfl, hp, ha, q⟩ := h
  rw [Vals.ref1 r]
  have vw : s.heap.get? p = some (DSub.viewOb "dict_values" a) := (show ObjOk X.prog X.w H s.heap p (vwO p a) from I.hok p _ hp).1
  obtain ⟨hz, hsys, vs, rel, dof⟩ := dk_of I.hok ha
  obtain ⟨ep, dat⟩ := dof.dictAt
  have hl : kvs.length = vs.length := KV.length rel
  refine PySem.W.kdl_call (PySem.W.kdl_values (knd := mixKind X.prog X.w) (kvs := vs) (ep := ep)) (I.ok.hd hc) ⟨⟨_, vw, rfl, rfl⟩, dat⟩ (by omega) fun h' tk acc c hk hS hacc => ?_
  refine ⟨.ref s.heap.objs.size, _, I.laid (t' := tk) (a := s.heap.objs.size) (o := .lst (kvs.map (·.2))) hk (Nat.le_refl _) ⟨by rw [List.length_map]; exact hz, acc.toList, c, vals_at (by rw [Array.length_toList, hacc.1, List.length_map, hl]) fun i u hu => ?_, by rw [Array.toArray_toList]; exact hS⟩, rfl, q _ (I.hok.fresh (Nat.le_refl _))⟩
  obtain ⟨k, e⟩ := hacc.2 i u (by rw [← Array.getElem?_toList]; exact hu)
  obtain ⟨x, h1, h2⟩ := KV.at' rel e
  exact ⟨x, by rw [List.getElem?_map, h1] <;> rfl, h2⟩
def rComb : List V → Hp → VK → Prop := fun vs H Q => ∃ a b : Int, vs = [.int a, .int b] ∧ 0 ≤ a ∧ 0 ≤ b ∧ a < 2 ^ 64 ∧ b ≤ 9000 ∧ Q (.int (PySem.W.mcComb a b)) H
theorem cr_comb : CallR X (.builtin "math.comb") rComb := by
  intro pins s σ H vs us Q I r h
  obtain ⟨a, b, rfl, ha, hb, ha2, hk, q⟩ := h
  obtain ⟨t, u, rfl⟩ := Vals.int2 r
  exact PySem.W.mc_comb ha hb ha2 (.inl hk) fun _ => ⟨.int _, H, I.tok _, ⟨_, rfl⟩, q⟩
end
end L2

set_option Elab.async false
set_option linter.all false
set_option maxRecDepth 100000
set_option maxHeartbeats 4000000
/-! ErrEnd: an error class's facts, from what the top has written. -/
namespace EK
open PySem PySem.W L2
def errB (K : Frag) (C fI : Addr) (f : Str) : Bool :=
  xfB K C && (decide (findIn K (.ref C) "__setattr__" = some (some (.builtin "object.__setattr__"))) && (decide (findIn K (.ref C) f = some none) && (decide (typeIn K (.ref fI) = some (.type "function")) && (keepIn K (.ref C) &&
  (decide (typeIn K (.ref C) = some (.type "type")) && (decide (exmOne K (.ref C) (.ref C) = some true) && (decide (subIn K (.ref C) (.type "ValueError") = some true) && (decide (ks_superIn K C C "__init__" = some (some (.builtin "ValueError.__init__"))) &&
  (decide (mroIn K C (.ref C) = some true) && (decide (findIn K (.ref C) "__class__" = some (some (.builtin "object.__class__"))) && decide (mroIn K C (.type "object") = some true)))))))))))
theorem and2 {a b : Bool} (h : (a && b) = true) : a = true ∧ b = true := Bool.and_eq_true_iff.mp h
theorem err_mk {P : Program} {K : Frag} {h : Heap} {mg : Str → Option Value} {x f : Str} {C fI N cda cc : Addr} (X : K.In h) (G : h.Ns mainGlobals mg)
    {nm q qn msg file : Str} {bs bm : List Value} {sn : List Str} {sub : List Value} {ab : Bool} {col : Option Bool} {dd od an cdd cld : Option Addr} {m0 m1 m2 m3 m5 : Option Value} {oc doc pm ct ccl cl : Value} {osl ccs csl : Array (Option Value)} {vs : Array Value} {tf : Tok}
    {p1 p2 a1 a2 a3 a4 a5 a6 b1 b2 b3 b4 : Pos}
    (aC : nsIn K mainGlobals x = some (some (.ref C))) (xL : K.lookup C = some (excClassObj nm q C N bs bm true sn sub ab col dd m0 m1 m2 m3 m5 "ValueError.__new__")) (rv : HandSPX.refsVE bm = true)
    (iC : findIn K (.ref C) "__init__" = some (some (.ref fI)))
    (l1 : K.lookup fI = some ⟨oc, od, .func (ksFn "__init__" qn (eArgs f p1 p2) (eBody f msg a1 a2 a3 a4 a5 a6 b1 b2 b3 b4) (eScope f) .none .none doc pm an (.ref cda) ct cc), osl⟩) (c1 : codeIn K (.ref cda) qn = true)
    (bd : ∀ u v : Value, bindArgs (ksFn "__init__" qn (eArgs f p1 p2) (eBody f msg a1 a2 a3 a4 a5 a6 b1 b2 b3 b4) (eScope f) .none .none doc pm an (.ref cda) ct cc) ⟨[u, v], []⟩ = pure [(("self" : Str), u), (f, v)])
    (sc : ∀ L : Addr, SupCall a1 a2 a3 a4 a5 msg (callEnv (ksFn "__init__" qn (eArgs f p1 p2) (eBody f msg a1 a2 a3 a4 a5 a6 b1 b2 b3 b4) (eScope f) .none .none doc pm an (.ref cda) ct cc) L fI))
    (cd : K.lookup cda = some ⟨ccl, cdd, .fields vs, ccs⟩) (vf : vs[2]? = some (.str file tf)) (pf : ((P.main.file : Str) == file) = true) (cL : K.lookup cc = some ⟨cl, cld, .cell (some (.ref C)), csl⟩)
    (eB : errB K C fI f = true) (ho : nsIn K cStatics "thirdparty.any" = some none) (su : nsIn K mainGlobals "super" = some none) (fok : f ≠ "self" ∧ f ≠ "__class__" ∧ f ≠ "super" ∧ f ≠ "__debug__") (top : (P.main.scope.names.lookup ("super" : Str)).isSome = false) :
    ErrTxt P K mg x f C fI := by
  obtain ⟨h1, eB⟩ := and2 eB
  obtain ⟨h2, eB⟩ := and2 eB
  obtain ⟨h3, eB⟩ := and2 eB
  obtain ⟨h4, eB⟩ := and2 eB
  obtain ⟨h5, eB⟩ := and2 eB
  obtain ⟨h6, eB⟩ := and2 eB
  obtain ⟨h7, eB⟩ := and2 eB
  obtain ⟨h8, eB⟩ := and2 eB
  obtain ⟨h9, eB⟩ := and2 eB
  obtain ⟨h10, eB⟩ := and2 eB
  have T := xfB_ok h1
  exact { gC := mg_of X G aC, cls := ⟨nm, q, N, bs, bm, sn, sub, ab, col, dd, m0, m1, m2, m3, m5, xL, rv⟩, sa := of_decide_eq_true h2, ga := T.ga, gg := T.gg, noN := of_decide_eq_true h3, iC := iC, tC := of_decide_eq_true h4, kC := h5, exC := T.exC,
          tyC := of_decide_eq_true h6, hdC := T.hdC, te := of_decide_eq_true h7, hB := of_decide_eq_true h8, si := of_decide_eq_true h9, ho := ho, su := mg_none_of X G su, mC := of_decide_eq_true h10, fok := fok, top := top,
          fn := ⟨oc, od, qn, msg, doc, pm, an, cda, cc, ct, osl, p1, p2, a1, a2, a3, a4, a5, a6, b1, b2, b3, b4, l1, c1, bd, sc, ⟨ccl, cdd, ccs, vs, file, tf, cd, vf, pf⟩, ⟨cl, cld, csl, cL⟩⟩ }
theorem excC_of {K : Frag} {C fI : Addr} {f : Str} (eB : errB K C fI f = true) (hn : specialIn K (.builtin "object.__class__") "__get__" = some (some (.builtin "getset_descriptor.__get__"))) (ht : takesIn K (.builtin "object.__class__") = some true) : ExcC K C := by
  obtain ⟨h1, eB⟩ := and2 eB
  obtain ⟨h2, eB⟩ := and2 eB
  obtain ⟨h3, eB⟩ := and2 eB
  obtain ⟨h4, eB⟩ := and2 eB
  obtain ⟨h5, eB⟩ := and2 eB
  obtain ⟨h6, eB⟩ := and2 eB
  obtain ⟨h7, eB⟩ := and2 eB
  obtain ⟨h8, eB⟩ := and2 eB
  obtain ⟨h9, eB⟩ := and2 eB
  obtain ⟨h10, eB⟩ := and2 eB
  obtain ⟨h11, h12⟩ := and2 eB
  have T := xfB_ok h1
  exact ⟨T.ga, T.gg, T.exC, T.hdC, of_decide_eq_true h11, hn, ht, of_decide_eq_true h12⟩
/-- which class is which, told apart -/
def kindsB (K : Frag) (E : Addr) (Cs : List Addr) : Bool :=
  (Cs.zipIdx.all fun p => Cs.zipIdx.all fun q => decide (kitOne K (.ref p.1) (.ref q.1) = some (decide (p.2 = q.2)))) && (Cs.all fun C => decide (kitOne K (.ref C) (.ref E) = some true) && decide (kitOne K (.ref C) (.type "ValueError") = some true))
theorem kinds_kt {K : Frag} {E : Addr} {Cs : List Addr} (h : kindsB K E Cs = true) (i j : Nat) (C D : Addr) (h1 : Cs[i]? = some C) (h2 : Cs[j]? = some D) : kitOne K (.ref C) (.ref D) = some (decide (i = j)) := by
  obtain ⟨h, _⟩ := and2 h
  have q := List.all_eq_true.mp h (C, i) (List.mk_mem_zipIdx_iff_getElem?.mpr h1)
  have q := List.all_eq_true.mp q (D, j) (List.mk_mem_zipIdx_iff_getElem?.mpr h2)
  exact of_decide_eq_true q
theorem kinds_ke {K : Frag} {E : Addr} {Cs : List Addr} (h : kindsB K E Cs = true) (C : Addr) (hC : C ∈ Cs) : kitOne K (.ref C) (.ref E) = some true ∧ kitOne K (.ref C) (.type "ValueError") = some true := by
  obtain ⟨_, h⟩ := and2 h
  obtain ⟨a, b⟩ := and2 (List.all_eq_true.mp h C hC)
  exact ⟨of_decide_eq_true a, of_decide_eq_true b⟩
end EK

set_option Elab.async false
set_option linter.all false
set_option maxRecDepth 100000
set_option maxHeartbeats 4000000
namespace T08
open PySem L2
def top (i : Nat) : Stmt := PySem.Challenge.pw_turnindex_k08_counts_that_are_none.main.body.getD i (.Pass ⟨0, 0, 0, 0⟩)
abbrev sWell : Stmt := top 26
abbrev sDraw : Stmt := top 27
abbrev sOne : Stmt := top 28
/-- a well of draws: its own digits left, its number, how often it was asked -/
def WellAt (H : Hp) (a : Addr) (n : Int) : Prop := ∃ w0 w1 w2 : Int, H a = some (.lst [.int w0, .int w1, .int w2]) ∧ 0 ≤ w1 ∧ w1 < 2147483647 ∧ 0 ≤ w2 ∧ w2 ≤ n
def KeepB (a : Addr) (H H' : Hp) : Prop := ∀ b o, H b = some o → b ≠ a → H' b = some o
def spWell : Sp := fun vs H Q _ => ∃ c : Int, vs = [.int c] ∧ ∀ p H', H p = none → WellAt H' p 0 → Same H H' → Q (.ref p) H'
def spDraw : Sp := fun vs H Q _ => ∃ (a : Addr) (m n : Int), vs = [.ref a, .int m] ∧ WellAt H a n ∧ n ≤ 1000000 ∧ 0 < m ∧ m < 1073741824 ∧ ∀ (d : Int) H', 0 ≤ d → d < m → WellAt H' a (n + 1) → KeepB a H H' → Q (.int d) H'
structure TxtD (K : PySem.W.Frag) (mg : Str → Option Value) : Prop where
  int : mg "int" = none
  len : mg "len" = none
theorem well_at (n : Int) (h : 0 ≤ n) (w : n < 7) : ∃ p : Int, atI [V.int 2147483647, V.int 2147483629, V.int 2147483587, V.int 2147483579, V.int 2147483563, V.int 2147483549, V.int 2147483543] n = some (V.int p) ∧ 0 < p ∧ p ≤ 2147483647 := by
  obtain e | e | e | e | e | e | e : n = 0 ∨ n = 1 ∨ n = 2 ∨ n = 3 ∨ n = 4 ∨ n = 5 ∨ n = 6 := by omega
  all_goals (subst e; exact ⟨_, rfl, by decide, by decide⟩)
section
variable {P : Program} {w : World} {K : PySem.W.Frag} {mg : Str → Option Value} {base : Heap}
theorem scWell : FnScope ["_law_cell"] ["_law_cell"] (defScope sWell) := ⟨rfl, rfl, rfl, by decide +kernel, rfl, by decide +kernel, by decide +kernel⟩
theorem ok_well {f : Addr} {fd : FuncData} (F : Fun K "_law_well" "_law_well" sWell f fd) (T : TxtD K mg) : FnOk P w K mg base CX0 1 f fd ["_law_cell"] spWell := by
  refine F.ok scWell (fun vs H Q E h => ?_) (fun cdv A outer s H vs Q E hr h => ?_)
  · obtain ⟨c, rfl, _⟩ := h
    rfl
  · obtain ⟨c, rfl, k⟩ := h
    refine ⟨_, pss_one (ps_ret (pe_lst (pa_cons (pe_op op_mul (pv 0) (pe_callTy call_int1 (by rfl) T.int (by decide +kernel) (pa_cons (pe_cmpR op_ge (pv 0) (pe_op op_pow pe_int pe_int) (nomark _)) pa_nil)))
      (pa_cons (pe_op op_mod (pe_callTy call_int1 (by rfl) T.int (by decide +kernel) (pa_cons (pv 0) pa_nil)) pe_int) (pa_cons pe_int pa_nil))))), ?_⟩
    refine ⟨_, rfl, _, rfl, _, _, rfl, rfl, ⟨by decide, by decide, by decide⟩, _, _, rfl, rfl, .inr ⟨_, rfl, _, _, rfl, rfl, .inr ?_, ?_⟩⟩
    · by_cases h : (10 : Int) ^ (18 : Int).toNat ≤ c
      · rw [decide_eq_true h]; decide
      · rw [decide_eq_false h]; decide
    refine ⟨_, rfl, .inl ⟨_, rfl, _, _, rfl, rfl, (by show (0 : Int) < 2147483647; decide), (by show 3 ≤ sizeLine; decide), fun p hp => ?_⟩⟩
    refine k p _ hp ⟨_, _, _, upd_same, Int.emod_nonneg _ (by decide), Int.emod_lt_of_pos _ (by decide), by decide, by decide⟩ fun b o e => ?_
    rw [upd_ne (ne_of_none e hp)]
    exact e
theorem scDraw : FnScope ["_law_well_here", "_law_many", "_law_digit", "_law_prime", "_law_number"] ["_law_well_here", "_law_many"] (defScope sDraw) := ⟨rfl, rfl, rfl, by decide +kernel, rfl, by decide +kernel, by decide +kernel⟩
theorem ok_draw {f : Addr} {fd : FuncData} (F : Fun K "_law_draw" "_law_draw" sDraw f fd) (T : TxtD K mg) : FnOk P w K mg base CX0 1 f fd ["_law_well_here", "_law_many"] spDraw := by
  refine F.ok scDraw (fun vs H Q E h => ?_) (fun cdv A outer s H vs Q E hr h => ?_)
  · obtain ⟨a, m, n, rfl, _⟩ := h
    rfl
  · obtain ⟨a, m, n, rfl, ⟨w0, w1, w2, ha, h1, h2, h3, h4⟩, hn, hm, hm2, k⟩ := h
    have nd := scDraw.nd
    refine ⟨_, pss_cons (ps_if (pt_cmpR op_gt (pe_ix ix_list (pv 0) pe_int (fun _ _ => rfl)) pe_int (nomark _))
        (pss_cons (ps_set (i := 2) nd rfl (Or.inl rfl) (pe_op op_mod (pe_callTy call_int1 (by rfl) T.int (by decide +kernel) (pa_cons (pe_ix ix_list (pv 0) pe_int (fun _ _ => rfl)) pa_nil)) (pv 1)))
        (pss_cons (ps_asg (pe_op op_fdiv (pe_ix ix_list (pv 0) pe_int (fun _ _ => rfl)) (pv 1)) (pg_sub (pv 0) pe_int set_list))
        (pss_one (ps_ret (pv 2))))) pss_nil)
      (pss_cons (ps_asg (pe_op op_add (pe_ix ix_list (pv 0) pe_int (fun _ _ => rfl)) pe_int) (pg_sub (pv 0) pe_int set_list))
      (pss_cons (ps_set (i := 3) nd rfl (Or.inl rfl) (pe_ix ix_list (pe_lst (pa_cons pe_int (pa_cons pe_int (pa_cons pe_int (pa_cons pe_int (pa_cons pe_int (pa_cons pe_int (pa_cons pe_int pa_nil))))))))
          (pe_op op_mod (pe_callTy call_int1 (by rfl) T.int (by decide +kernel) (pa_cons (pe_ix ix_list (pv 0) pe_int (fun _ _ => rfl)) pa_nil)) pe_int) (fun _ _ => rfl)))
      (pss_cons (ps_set (i := 4) nd rfl (Or.inl rfl) (pe_op op_mod (pe_callTy call_int1 (by rfl) T.int (by decide +kernel) (pa_cons (pe_op op_pow (pe_op op_add (pe_op op_add (pe_ix ix_list (pv 0) pe_int (fun _ _ => rfl)) (pe_op op_mul pe_int (pe_ix ix_list (pv 0) pe_int (fun _ _ => rfl)))) pe_int) pe_int) pa_nil)) (pv 3)))
      (pss_cons (ps_set (i := 4) nd rfl (Or.inl rfl) (pe_op op_mod (pe_callTy call_int1 (by rfl) T.int (by decide +kernel) (pa_cons (pe_op op_mul (pe_op op_add (pv 4) (pe_ix ix_list (pv 0) pe_int (fun _ _ => rfl))) (pe_op op_add (pe_op op_fdiv (pv 4) pe_int) pe_int)) pa_nil)) (pv 3)))
      (pss_one (ps_ret (pe_op op_mod (pe_callTy call_int1 (by rfl) T.int (by decide +kernel) (pa_cons (pe_op op_fdiv (pv 4) pe_int) pa_nil)) (pv 1)))))))), ?_⟩
    refine ⟨_, rfl, a, _, 0, _, rfl, rfl, .of ha, rfl, _, _, rfl, rfl, _, rfl, ?_⟩
    refine ite2 (fun h0 => ?_) (fun h0 => ?_)
    · refine ⟨_, rfl, a, _, 0, _, rfl, rfl, .of ha, rfl, .inl ⟨_, rfl, _, rfl, _, _, rfl, rfl, hm, ?_⟩⟩
      refine ⟨_, rfl, a, _, 0, _, rfl, rfl, .of ha, rfl, _, rfl, _, _, rfl, rfl, ⟨hm, hm2⟩, _, rfl, a, _, 0, 0, rfl, rfl, ha, rfl, _, rfl, ?_⟩
      refine k _ _ (Int.emod_nonneg _ (by omega)) (Int.emod_lt_of_pos _ hm) ⟨_, _, _, upd_same, h1, h2, h3, by omega⟩ fun b o e n => ?_
      rw [upd_ne n]
      exact e
    · refine ⟨_, rfl, a, _, 2, _, rfl, rfl, .of ha, rfl, _, _, rfl, rfl, _, rfl, a, _, 2, 2, rfl, rfl, ha, rfl, ?_⟩
      have ha2 : ∀ {p : Addr} {H' : Hp}, H' = upd H a (.lst ([V.int w0, V.int w1, V.int w2].set 2 (V.int (w2 + 1)))) → H' a = some (.lst [.int w0, .int w1, .int (w2 + 1)]) := fun e => by rw [e]; exact upd_same
      refine ⟨by show 7 ≤ sizeLine; decide, fun p hp => ?_⟩
      have hpa : a ≠ p := ne_of_none (ha2 (p := p) rfl) hp
      have ha3 : (upd (upd H a (.lst ([V.int w0, V.int w1, V.int w2].set 2 (V.int (w2 + 1))))) p (.lst [V.int 2147483647, V.int 2147483629, V.int 2147483587, V.int 2147483579, V.int 2147483563, V.int 2147483549, V.int 2147483543])) a = some (.lst [.int w0, .int w1, .int (w2 + 1)]) := by
        rw [upd_ne hpa]
        exact ha2 (p := p) rfl
      obtain ⟨q, hq, q0, q1⟩ := well_at ((w2 + 1) % 7) (Int.emod_nonneg _ (by decide)) (Int.emod_lt_of_pos _ (by decide))
      refine ⟨_, rfl, a, _, 2, _, rfl, rfl, .of ha3, rfl, .inl ⟨_, rfl, _, _, rfl, rfl, (by show (0 : Int) < 7; decide), p, _, _, _, rfl, rfl, .of upd_same, hq, ?_⟩⟩
      refine ⟨_, rfl, a, _, 1, _, rfl, rfl, .of ha3, rfl, _, rfl, a, _, 2, _, rfl, rfl, .of ha3, rfl, _, _, rfl, rfl, .inl ⟨by decide, by decide⟩, _, _, rfl, rfl, _, _, rfl, rfl, _, _, rfl, rfl, ⟨by decide, by decide, by omega⟩, .inl ⟨_, rfl, _, rfl, _, _, rfl, rfl, q0, ?_⟩⟩
      have g0 := Int.emod_nonneg ((w1 + 7919 * (w2 + 1) + 1) ^ (5 : Int).toNat) (show q ≠ 0 by omega)
      have g1 := Int.emod_lt_of_pos ((w1 + 7919 * (w2 + 1) + 1) ^ (5 : Int).toNat) q0
      refine ⟨_, rfl, _, rfl, a, _, 2, _, rfl, rfl, .of ha3, rfl, _, _, rfl, rfl, _, rfl, _, _, rfl, rfl, ⟨by decide, by decide⟩, _, _, rfl, rfl, _, _, rfl, rfl, .inl ⟨by omega, by omega⟩, .inl ⟨_, rfl, _, rfl, _, _, rfl, rfl, q0, ?_⟩⟩
      refine ⟨_, rfl, _, _, rfl, rfl, ⟨by decide, by decide⟩, .inl ⟨_, rfl, _, rfl, _, _, rfl, rfl, hm, ?_⟩⟩
      refine k _ _ (Int.emod_nonneg _ (by omega)) (Int.emod_lt_of_pos _ hm) ⟨_, _, _, ha3, h1, h2, by omega, by omega⟩ fun b o e n => ?_
      rw [upd_ne (fun z => ?_), upd_ne n]
      · exact e
      · rw [← z, upd_ne n, e] at hp
        cases hp
/-- one of a list of things -/
def spOne : Sp := fun vs H Q _ => ∃ (a l : Addr) (n : Int) (xs : List V), vs = [.ref a, .ref l] ∧ WellAt H a n ∧ n ≤ 1000000 ∧ H l = some (.lst xs) ∧ l ≠ a ∧ 0 < xs.length ∧ xs.length ≤ 1000 ∧ ∀ (x : V) H', x ∈ xs → WellAt H' a (n + 1) → KeepB a H H' → Q x H'
theorem scOne : FnScope ["_law_well_here", "_law_some"] ["_law_well_here", "_law_some"] (defScope sOne) := ⟨rfl, rfl, rfl, by decide +kernel, rfl, by decide +kernel, by decide +kernel⟩
theorem ok_one {f fD : Addr} {fd fdD : FuncData} (F : Fun K "_law_one" "_law_one" sOne f fd) (T : TxtD K mg) (FD : Fun K "_law_draw" "_law_draw" sDraw fD fdD) (gD : mg "_law_draw" = some (.ref fD)) (bD : Binds K fdD ["_law_well_here", "_law_many"] []) :
    FnOk P w K mg base CX0 2 f fd ["_law_well_here", "_law_some"] spOne := by
  have GD : FnOk P w K mg base CX0 1 fD fdD ["_law_well_here", "_law_many"] spDraw := ok_draw FD T
  refine F.ok scOne (fun vs H Q E h => ?_) (fun cdv A outer s H vs Q E hr h => ?_)
  · obtain ⟨a, l, n, xs, rfl, _⟩ := h
    rfl
  · obtain ⟨a, l, n, xs, rfl, hw, hn, hl, hla, h1, h2, k⟩ := h
    refine ⟨_, pss_one (ps_ret (pe_ix ix_list (pv 1) (pe_call GD hr rfl gD FD.kp bD .nil pass0 (pa_cons (pv 0) (pa_cons (pe_callB call_len_seq (by rfl) T.len PySem.boot_len (pa_cons (pv 1) pa_nil)) pa_nil))) (fun _ _ => rfl))), ?_⟩
    refine ⟨_, rfl, _, rfl, _, rfl, l, xs, rfl, .inl (.of hl), a, _, n, rfl, hw, hn, by omega, by omega, fun d H' hd hd2 hw' hk => ?_⟩
    obtain ⟨j, rfl⟩ : ∃ j : Nat, d = (j : Int) := ⟨d.toNat, by omega⟩
    have hj : j < xs.length := by omega
    refine ⟨l, xs, _, xs[j], rfl, rfl, .of (hk l _ hl hla), atI_nat (List.getElem?_eq_getElem hj), ?_⟩
    exact k _ _ (List.getElem_mem hj) hw' hk
end
end T08

set_option Elab.async false
set_option linter.all false
set_option maxRecDepth 100000
set_option maxHeartbeats 4000000
namespace T08
open PySem L2 EK
abbrev sIsText : Stmt := top 8
abbrev sIsLetter : Stmt := top 9
abbrev sIsNumber : Stmt := top 10
abbrev sIsCounts : Stmt := top 11
abbrev sCkNumber : Stmt := top 12
abbrev sCkCounts : Stmt := top 13
/-- a thing whose kind is known -/
inductive Pl (H : Hp) : V → Prop
  | non : Pl H .non
  | int (i : Int) : Pl H (.int i)
  | str (z : Str) : Pl H (.str z)
  | bl (b : Bool) : Pl H (.bl b)
  | tup {a : Addr} {xs : List V} (e : H a = some (.tup xs)) : Pl H (.ref a)
  | lst {a : Addr} {xs : List V} (e : H a = some (.lst xs)) : Pl H (.ref a)
  | dct {a : Addr} {kvs : List (Key × V)} (e : H a = some (.dK kvs)) : Pl H (.ref a)
theorem Pl.keep {H H' : Hp} {x : V} (h : Pl H x) (s : Same H H') : Pl H' x := by
  cases h with
  | non => exact .non
  | int i => exact .int i
  | str z => exact .str z
  | bl b => exact .bl b
  | tup e => exact .tup (s _ _ e)
  | lst e => exact .lst (s _ _ e)
  | dct e => exact .dct (s _ _ e)
theorem Pl.keepB {wl : Addr} {H H' : Hp} {x : V} (h : Pl H x) (s : KeepB wl H H') (n : x ≠ .ref wl) : Pl H' x := by
  cases h with
  | non => exact .non
  | int i => exact .int i
  | str z => exact .str z
  | bl b => exact .bl b
  | @tup a xs e => exact .tup (s _ _ e fun z => n (by rw [z]))
  | @lst a xs e => exact .lst (s _ _ e fun z => n (by rw [z]))
  | @dct a xs e => exact .dct (s _ _ e fun z => n (by rw [z]))
def isStrV : V → Bool
  | .str _ => true
  | _ => false
def isIntV : V → Bool
  | .int _ => true
  | .bl _ => true
  | _ => false
def isBlV : V → Bool
  | .bl _ => true
  | _ => false
/-- isinstance(x, str | int | bool) -/
theorem Pl.isStr {K : PySem.W.Frag} {H : Hp} {x : V} (h : Pl H x) : ∃ t, TyX K H x t ∧ PySem.W.kitOne K t (.type "str") = some (isStrV x) := by
  cases h with
  | non => exact ⟨_, .base .non, kit_ty (r := false) (by decide +kernel)⟩
  | int i => exact ⟨_, .base (.int i), kit_ty (r := false) (by decide +kernel)⟩
  | str z => exact ⟨_, .base (.str z), kit_ty (r := true) (by decide +kernel)⟩
  | bl b => exact ⟨_, .base (.bl b), kit_ty (r := false) (by decide +kernel)⟩
  | tup e => exact ⟨_, .base (.tup e), kit_ty (r := false) (by decide +kernel)⟩
  | lst e => exact ⟨_, .base (.lst e), kit_ty (r := false) (by decide +kernel)⟩
  | dct e => exact ⟨_, .base (.dK e), kit_ty (r := false) (by decide +kernel)⟩
theorem Pl.isInt {K : PySem.W.Frag} {H : Hp} {x : V} (h : Pl H x) : ∃ t, TyX K H x t ∧ PySem.W.kitOne K t (.type "int") = some (isIntV x) := by
  cases h with
  | non => exact ⟨_, .base .non, kit_ty (r := false) (by decide +kernel)⟩
  | int i => exact ⟨_, .base (.int i), kit_ty (r := true) (by decide +kernel)⟩
  | str z => exact ⟨_, .base (.str z), kit_ty (r := false) (by decide +kernel)⟩
  | bl b => exact ⟨_, .base (.bl b), kit_ty (r := true) (by decide +kernel)⟩
  | tup e => exact ⟨_, .base (.tup e), kit_ty (r := false) (by decide +kernel)⟩
  | lst e => exact ⟨_, .base (.lst e), kit_ty (r := false) (by decide +kernel)⟩
  | dct e => exact ⟨_, .base (.dK e), kit_ty (r := false) (by decide +kernel)⟩
theorem Pl.isBl {K : PySem.W.Frag} {H : Hp} {x : V} (h : Pl H x) : ∃ t, TyX K H x t ∧ PySem.W.kitOne K t (.type "bool") = some (isBlV x) := by
  cases h with
  | non => exact ⟨_, .base .non, kit_ty (r := false) (by decide +kernel)⟩
  | int i => exact ⟨_, .base (.int i), kit_ty (r := false) (by decide +kernel)⟩
  | str z => exact ⟨_, .base (.str z), kit_ty (r := false) (by decide +kernel)⟩
  | bl b => exact ⟨_, .base (.bl b), kit_ty (r := true) (by decide +kernel)⟩
  | tup e => exact ⟨_, .base (.tup e), kit_ty (r := false) (by decide +kernel)⟩
  | lst e => exact ⟨_, .base (.lst e), kit_ty (r := false) (by decide +kernel)⟩
  | dct e => exact ⟨_, .base (.dK e), kit_ty (r := false) (by decide +kernel)⟩
def letS : Str := "abcdefghijklmnopqrstuvwxyz"
def isT (z : Str) : Bool := z.cps.toList.all fun c => decide (c ∈ letS.cps.toList)
structure TxtC (K : PySem.W.Frag) (mg : Str → Option Value) : Prop where
  isinstance : mg "isinstance" = none
  str : mg "str" = none
  int : mg "int" = none
  bool : mg "bool" = none
  dict : mg "dict" = none
  all : mg "all" = none
  len : mg "len" = none
  sum : mg "sum" = none
  letters : ∃ u, mg "LETTERS" = some u ∧ RelV (.str letS) u
  most : ∃ u, mg "MOST_LETTERS" = some u ∧ RelV (.int 300) u
def spText : Sp := fun vs H Q _ => ∃ x, vs = [x] ∧ Pl H x ∧ ((∃ z, x = .str z ∧ z.cps.size ≤ 100000 ∧ ∀ H', Same H H' → Q (.bl (isT z)) H') ∨ (isStrV x = false ∧ Q (.bl false) H))
def spLetter : Sp := fun vs H Q _ => ∃ x, vs = [x] ∧ Pl H x ∧ ((∃ z, x = .str z ∧ z.cps.size ≤ 100000 ∧ ∀ H', Same H H' → Q (.bl (isT z && decide (z.cps.size = 1))) H') ∨ (isStrV x = false ∧ Q (.bl false) H))
def numB (x : V) (m : Int) : Bool := match x with
  | .int i => decide (m ≤ i)
  | _ => false
def spNumber : Sp := fun vs H Q _ => ∃ x m, vs = [x, .int m] ∧ Pl H x ∧ Q (.bl (numB x m)) H
section
variable {P : Program} {w : World} {K : PySem.W.Frag} {mg : Str → Option Value} {base : Heap}
theorem scIsText : FnScope ["value", "sign"] ["value"] (defScope sIsText) := ⟨rfl, rfl, rfl, by decide +kernel, rfl, by decide +kernel, by decide +kernel⟩
theorem scIsLetter : FnScope ["value"] ["value"] (defScope sIsLetter) := ⟨rfl, rfl, rfl, by decide +kernel, rfl, by decide +kernel, by decide +kernel⟩
theorem scIsNumber : FnScope ["value", "least"] ["value", "least"] (defScope sIsNumber) := ⟨rfl, rfl, rfl, by decide +kernel, rfl, by decide +kernel, by decide +kernel⟩
theorem ok_isText {f : Addr} {fd : FuncData} (F : Fun K "is_text" "is_text" sIsText f fd) (T : TxtC K mg) : FnOk P w K mg base CX0 1 f fd ["value"] spText := by
  refine F.ok scIsText (fun vs H Q E h => ?_) (fun cdv A outer s H vs Q E hr h => ?_)
  · obtain ⟨x, rfl, _⟩ := h
    rfl
  · obtain ⟨x, rfl, hp, k⟩ := h
    have nd := scIsText.nd
    refine ⟨_, (pss_one (ps_ret (pe_and (pe_callB call_isi (by rfl) T.isinstance (by decide +kernel) (pa_cons (pv 0) (pa_cons (pe_bltn (v := .ty "str") rfl T.str (by decide +kernel) rfl) pa_nil))) (pe_one (pe_callB (cr_all rfl) (by rfl) T.all (by decide +kernel) (pa_cons (pe_lc (own := [("sign", 1)]) (g := gName 1) (tt := tYes) rfl nd (pi_str (pv 0)) (blkOk_by (N := ["value", "sign"]) (sc := defScope sIsText) (by decide +kernel)) (fun _ _ _ _ _ => (pg_name (i := 1) nd rfl (Or.inl rfl))) (fun _ _ _ _ _ => pts_nil) (fun _ _ _ _ _ => (pe_cmpR op_in_sign (pv 1) (C8.pe_gc (by rfl) T.letters) (by rfl)))) pa_nil)))))), ?_⟩
    obtain ⟨t, ht, hk⟩ := hp.isStr (K := K)
    rcases k with ⟨z, rfl, hz, k⟩ | ⟨hs, k⟩
    · refine ⟨_, rfl, _, _, _, _, _, rfl, .ty _, ht, hk, _, rfl, _, rfl, z, rfl, fun D hD => lc_it (walk_str (z := z)) (fun i H' => Same H H' ∧ H' D = some (.lst (((z.cps.toList.take i).map fun c => decide (c ∈ letS.cps.toList)).map V.bl))) ⟨fun b o e => by rw [upd_ne (ne_of_none e hD)]; exact e, upd_same⟩ (fun _ _ _ _ => trivial) ?_ ?_⟩
      · rintro i y H1 H2 hi ⟨s1, d1⟩ ⟨rfl, c, hc, rfl⟩
        have hc' : z.cps.toList[i]? = some c := by rw [Array.getElem?_toList]; exact hc
        refine ⟨rfl, ?_⟩
        refine ⟨_, rfl, c, _, rfl, rfl, _, d1, ?_, fun b o e => ?_, ?_⟩
        · rw [List.length_map, List.length_map, List.length_take]
          have hl : z.cps.toList.length = z.cps.size := Array.length_toList
          have : i < 100000 := by omega
          exact Nat.lt_of_le_of_lt (Nat.min_le_left _ _) (Nat.lt_trans this (by decide))
        · rw [upd_ne (ne_of_none e hD)]
          exact s1 _ _ e
        · rw [upd_same, List.take_succ, hc', List.map_append, List.map_append]
          rfl
      · rintro H1 ⟨s1, d1⟩
        rw [← Array.length_toList, List.take_length] at d1
        refine ⟨D, _, rfl, .of d1, ?_⟩
        have e : ((z.cps.toList.map fun c => decide (c ∈ letS.cps.toList)).all id) = isT z := by
          unfold isT
          rw [List.all_map]
          rfl
        rw [e]
        exact k H1 s1
    · rw [hs] at hk
      exact ⟨_, rfl, _, _, _, _, _, rfl, .ty _, ht, hk, _, rfl, k⟩
theorem ok_isLetter {f fT : Addr} {fd fdT : FuncData} (F : Fun K "is_letter" "is_letter" sIsLetter f fd) (T : TxtC K mg) (GT : FnOk P w K mg base CX0 1 fT fdT ["value"] spText) (gT : mg "is_text" = some (.ref fT)) (kT : PySem.W.keepIn K (.ref fT) = true) (bT : Binds K fdT ["value"] []) :
    FnOk P w K mg base CX0 2 f fd ["value"] spLetter := by
  refine F.ok scIsLetter (fun vs H Q E h => ?_) (fun cdv A outer s H vs Q E hr h => ?_)
  · obtain ⟨x, rfl, _⟩ := h
    rfl
  · obtain ⟨x, rfl, hp, k⟩ := h
    have nd := scIsLetter.nd
    have hr1 : Room 1 _ := hr
    refine ⟨_, (pss_one (ps_ret (pe_and (pe_call GT hr1 rfl gT kT bT .nil pass0 (pa_cons (pv 0) pa_nil)) (pe_one (pe_cmpR op_eq (pe_callB call_len_str (by rfl) T.len (by decide +kernel) (pa_cons (pv 0) pa_nil)) pe_int (nomark _)))))), ?_⟩
    rcases k with ⟨z, rfl, hz, k⟩ | ⟨hs, k⟩
    · refine ⟨_, rfl, _, rfl, hp, .inl ⟨z, rfl, hz, fun H1 s1 => ⟨_, rfl, ?_⟩⟩⟩
      have k1 := k H1 s1
      by_cases hT : isT z = true
      · rw [hT] at k1 ⊢
        refine ⟨_, rfl, z, rfl, Nat.le_trans hz (by decide), rfl, ?_⟩
        have e : decide (V.int ((z.length : Nat) : Int) = V.int 1) = decide (z.cps.size = 1) := by
          by_cases h : z.cps.size = 1
          · rw [decide_eq_true h, decide_eq_true]
            show V.int ((z.cps.size : Nat) : Int) = V.int 1
            rw [h]
            rfl
          · rw [decide_eq_false h, decide_eq_false]
            intro q
            injection q with q
            have q2 : ((z.cps.size : Nat) : Int) = 1 := q
            omega
        rw [e]
        simpa using k1
      · rw [Bool.not_eq_true] at hT
        rw [hT] at k1 ⊢
        exact k1
    · exact ⟨_, rfl, _, rfl, hp, .inr ⟨hs, _, rfl, k⟩⟩
theorem ok_isNumber {f : Addr} {fd : FuncData} (F : Fun K "is_number" "is_number" sIsNumber f fd) (T : TxtC K mg) : FnOk P w K mg base CX0 1 f fd ["value", "least"] spNumber := by
  refine F.ok scIsNumber (fun vs H Q E h => ?_) (fun cdv A outer s H vs Q E hr h => ?_)
  · obtain ⟨x, m, rfl, _⟩ := h
    rfl
  · obtain ⟨x, m, rfl, hp, k⟩ := h
    have nd := scIsNumber.nd
    refine ⟨_, (pss_one (ps_ret (pe_and (pe_callB call_isi (by rfl) T.isinstance (by decide +kernel) (pa_cons (pv 0) (pa_cons (pe_bltn (v := .ty "int") rfl T.int (by decide +kernel) rfl) pa_nil))) (pe_and (pe_not (pe_callB call_isi (by rfl) T.isinstance (by decide +kernel) (pa_cons (pv 0) (pa_cons (pe_bltn (v := .ty "bool") rfl T.bool (by decide +kernel) rfl) pa_nil)))) (pe_one (pe_cmpR op_ge (pv 0) (pv 1) (nomark _))))))), ?_⟩
    obtain ⟨t, ht, hk⟩ := hp.isInt (K := K)
    obtain ⟨t2, ht2, hk2⟩ := hp.isBl (K := K)
    refine ⟨_, rfl, _, _, _, _, _, rfl, .ty _, ht, hk, _, rfl, ?_⟩
    cases x with
    | int i =>
      exact ⟨_, rfl, _, _, _, _, _, rfl, .ty _, ht2, hk2, _, rfl, _, rfl, _, rfl, _, rfl, _, _, rfl, rfl, k⟩
    | bl b => exact ⟨_, rfl, _, _, _, _, _, rfl, .ty _, ht2, hk2, _, rfl, _, rfl, k⟩
    | _ => exact k
/-- an entry of counts -/
def keyOk : Key → Bool
  | .inl _ => false
  | .inr z => isT z && decide (z.cps.size = 1)
def entOk (p : Key × V) : Bool := keyOk p.1 && numB p.2 0
def intOf : V → Int
  | .int i => i
  | _ => 0
def icB (kvs : List (Key × V)) : Bool := kvs.all entOk && decide ((kvs.map fun p => intOf p.2).sum ≤ 300)
/-- what is_counts says of x -/
inductive IsC (H : Hp) : V → Bool → Prop
  | no {x : V} (p : Pl H x) (n : ∀ a, x = .ref a → ∀ kvs, H a ≠ some (.dK kvs)) : IsC H x false
  | dct {a : Addr} {kvs : List (Key × V)} (e : H a = some (.dK kvs)) (p : ∀ q ∈ kvs, Pl H q.2 ∧ q.2 ≠ .ref a) (l : ∀ q ∈ kvs, ∀ z, q.1 = .inr z → z.cps.size ≤ 1000) : IsC H (.ref a) (icB kvs)
def spCounts : Sp := fun vs H Q _ => ∃ x b, vs = [x] ∧ IsC H x b ∧ ∀ H', Same H H' → Q (.bl b) H'
def isDctV (H : Hp) (x : V) : Prop := ∃ a kvs, x = .ref a ∧ H a = some (.dK kvs)
theorem Pl.isDict {K : PySem.W.Frag} {H : Hp} {x : V} (h : Pl H x) (n : ∀ a, x = .ref a → ∀ kvs, H a ≠ some (.dK kvs)) : ∃ t, TyX K H x t ∧ PySem.W.kitOne K t (.type "dict") = some false := by
  cases h with
  | non => exact ⟨_, .base .non, kit_ty (by decide +kernel)⟩
  | int i => exact ⟨_, .base (.int i), kit_ty (by decide +kernel)⟩
  | str z => exact ⟨_, .base (.str z), kit_ty (by decide +kernel)⟩
  | bl b => exact ⟨_, .base (.bl b), kit_ty (by decide +kernel)⟩
  | tup e => exact ⟨_, .base (.tup e), kit_ty (by decide +kernel)⟩
  | lst e => exact ⟨_, .base (.lst e), kit_ty (by decide +kernel)⟩
  | dct e => exact absurd e (n _ rfl _)
theorem scIsCounts : FnScope ["value", "letter", "many"] ["value"] (defScope sIsCounts) := ⟨rfl, rfl, rfl, by decide +kernel, rfl, by decide +kernel, by decide +kernel⟩
theorem ok_isCounts {f fL fN : Addr} {fd fdL fdN : FuncData} (F : Fun K "is_counts" "is_counts" sIsCounts f fd) (T : TxtC K mg) (GL : FnOk P w K mg base CX0 2 fL fdL ["value"] spLetter) (gL : mg "is_letter" = some (.ref fL)) (kL : PySem.W.keepIn K (.ref fL) = true) (bL : Binds K fdL ["value"] [])
    (GN : FnOk P w K mg base CX0 1 fN fdN ["value", "least"] spNumber) (gN : mg "is_number" = some (.ref fN)) (kN : PySem.W.keepIn K (.ref fN) = true) (bN : Binds K fdN ["value", "least"] []) :
    FnOk P w K mg base CX0 3 f fd ["value"] spCounts := by
  refine F.ok scIsCounts (fun vs H Q E h => ?_) (fun cdv A outer s H vs Q E hr h => ?_)
  · obtain ⟨x, b, rfl, _⟩ := h
    rfl
  · obtain ⟨x, b, rfl, hc, k⟩ := h
    have nd := scIsCounts.nd
    have hr2 : Room 2 _ := hr
    have hr1 : Room 1 _ := hr.mono (by decide)
    refine ⟨_, (pss_cons (ps_if (pt_not (pt_val (pe_callB call_isi (by rfl) T.isinstance (by decide +kernel) (pa_cons (pv 0) (pa_cons (pe_bltn (v := .ty "dict") rfl T.dict (by decide +kernel) rfl) pa_nil))))) (pss_one (ps_ret pe_bl)) pss_nil)
      (pss_cons (ps_lock (ps_for PassesOwn.never rfl (pi_items (pv 0)) (pg_tup rfl (pgs_cons (pg_name (i := 1) nd rfl (Or.inl rfl)) (pgs_cons (pg_name (i := 2) nd rfl (Or.inl rfl)) pgs_nil))) (pss_one (ps_if (PW.pt (pw_or (pt_not (pt_val (pe_call GL hr2 rfl gL kL bL .nil pass0 (pa_cons (pv 1) pa_nil)))) (pw_or1 (pt_not (pt_val (pe_call GN hr1 rfl gN kN bN .nil pass0 (pa_cons (pv 2) (pa_cons pe_int pa_nil)))))))) (pss_one (ps_ret pe_bl)) pss_nil))))
      (pss_one (ps_ret (pe_cmpR op_le (pe_callB (cr_sumV rfl) (by rfl) T.sum (by decide +kernel) (pa_cons (pe_bm0 PySem.F.plainAttrs_dict PySem.F.slot_dict_values PySem.F.type_dict_values mt_values (pv 0)) pa_nil)) (C8.pe_gc (by rfl) T.most) (nomark _)))))), ?_⟩
    cases hc with
    | no p n =>
      obtain ⟨t, ht, hk⟩ := p.isDict (K := K) n
      exact ⟨_, rfl, _, _, _, _, _, rfl, .ty _, ht, hk, _, rfl, k H (.refl _)⟩
    | @dct a kvs e p l =>
      refine ⟨_, rfl, _, _, _, _, true, rfl, .ty _, .base (.dK e), kit_ty (by decide +kernel), _, rfl, ?_⟩
      refine ⟨a, _, e, trivial, fun od => ?_⟩
      have back : ∀ H2, Same (upd H a (.frz od (.dK kvs))) H2 → Same H (upd H2 a (.dK kvs)) := fun H2 s2 b o q => by
        by_cases hb : b = a
        · subst hb
          rw [e] at q
          cases q
          exact upd_same
        · rw [upd_ne hb]
          exact s2 b o (by rw [upd_ne hb]; exact q)
      refine ⟨_, rfl, a, od, kvs, rfl, upd_same, for_it (walk_items (d := a) (o := od) (kvs := kvs)) (fun i σ H' => ∃ v1 v2 : Option V, σ = [some (.ref a), v1, v2] ∧ Same (upd H a (.frz od (.dK kvs))) H' ∧ (kvs.take i).all entOk = true) ⟨_, _, rfl, .refl _, rfl⟩ (fun i σ H' _ ⟨_, _, _, s, _⟩ => s _ _ upd_same) ?_ ?_⟩
      · rintro i x σ H1 H2 hi ⟨v1, v2, rfl, s1, hall⟩ ⟨T0, x1, y1, rfl, hT, rfl, e1, e2⟩
        obtain ⟨H3, f3, S3, A3⟩ := alloc (o := .tup [x1, y1]) hT
        rw [f3]
        have hq : kvs[i]? = some kvs[i] := List.getElem?_eq_getElem hi
        have e1 : kvs[i]?.map (fun kv => kV kv.1) = some x1 := e1
        have e2 : kvs[i]?.map Prod.snd = some y1 := e2
        rw [hq] at e1 e2
        obtain rfl : kV kvs[i].1 = x1 := Option.some.inj e1
        obtain rfl : kvs[i].2 = y1 := Option.some.inj e2
        have hm : kvs[i] ∈ kvs := List.getElem_mem hi
        have s3 := s1.trans S3
        have step : (kvs.take (i + 1)).all entOk = entOk kvs[i] := by
          rw [List.take_succ, hq, List.all_append, hall]
          simp
        have bad : entOk kvs[i] = false → ∀ H4, Same (upd H a (.frz od (.dK kvs))) H4 → H4 a = some (.frz od (.dK kvs)) ∧ Q (.bl false) (upd H4 a (.dK kvs)) := fun hb H4 s4 => by
          refine ⟨s4 _ _ upd_same, ?_⟩
          have eb : icB kvs = false := by
            unfold icB
            have : kvs.all entOk = false := by
              rw [List.all_eq_false]
              exact ⟨_, hm, by rw [hb]; simp⟩
            rw [this]
            rfl
          have k4 := k _ (back H4 s4)
          rw [eb] at k4
          exact k4
        obtain ⟨pv2, nv2⟩ := p _ hm
        have pl2 : Pl H3 kvs[i].2 := (pv2.keepB (wl := a) (H' := upd H a (.frz od (.dK kvs))) (fun b o q hb => by rw [upd_ne hb]; exact q) nv2).keep s3
        refine ⟨T0, _, rfl, .of A3, rfl, _, _, rfl, _, _, rfl, rfl, ?_⟩
        have hl := l _ hm
        have ent : entOk kvs[i] = (keyOk kvs[i].1 && numB kvs[i].2 0) := rfl
        cases hkey : kvs[i].1 with
        | inl j =>
          have be : entOk kvs[i] = false := by rw [ent, hkey]; rfl
          refine ⟨_, rfl, _, rfl, .int j, .inr ⟨rfl, _, rfl, ?_⟩⟩
          exact bad be H3 s3
        | inr z =>
          refine ⟨_, rfl, _, rfl, .str z, .inl ⟨z, rfl, Nat.le_trans (hl z hkey) (by decide), fun H4 s4 => ⟨_, rfl, ?_⟩⟩⟩
          have ke : keyOk kvs[i].1 = (isT z && decide (z.cps.size = 1)) := by rw [hkey]; rfl
          by_cases hk : (isT z && decide (z.cps.size = 1)) = true
          · rw [hk]
            refine ⟨_, rfl, _, _, rfl, pl2.keep s4, _, rfl, ?_⟩
            by_cases hn : numB kvs[i].2 0 = true
            · rw [hn]
              exact ⟨_, _, rfl, s3.trans s4, by rw [step, ent, ke, hk, hn]; rfl⟩
            · rw [Bool.not_eq_true] at hn
              rw [hn]
              exact bad (by rw [ent, ke, hk, hn]; rfl) H4 (s3.trans s4)
          · rw [Bool.not_eq_true] at hk
            rw [hk]
            exact bad (by rw [ent, ke, hk]; rfl) H4 (s3.trans s4)
      · rintro σ H1 ⟨v1, v2, rfl, s1, hall⟩
        rw [List.take_length] at hall
        refine ⟨s1 _ _ upd_same, ?_⟩
        have hb := back H1 s1
        have ha : (upd H1 a (.dK kvs)) a = some (.dK kvs) := upd_same
        have hin : kvs.map (·.2) = (kvs.map fun p => intOf p.2).map V.int := by
          rw [List.map_map]
          refine List.map_congr_left fun q hq => ?_
          have hq2 := List.all_eq_true.mp hall q hq
          have hn : numB q.2 0 = true := (Bool.and_eq_true_iff.mp hq2).2
          show q.2 = V.int (intOf q.2)
          cases hv : q.2 with
          | int i => rfl
          | _ => rw [hv] at hn; cases hn
        have eb : icB kvs = decide ((kvs.map fun p => intOf p.2).sum ≤ 300) := by
          unfold icB
          rw [hall, Bool.true_and]
        rw [eb] at k
        refine ⟨_, rfl, .inr (.inr (.inl ⟨rfl, .inl ⟨_, ha⟩⟩)), a, kvs, rfl, rfl, ha, fun r hr => ?_⟩
        obtain ⟨H5, f5, S5, A5⟩ := alloc (o := vwO r a) hr
        rw [f5]
        exact ⟨r, a, kvs, _, rfl, A5, S5 _ _ ha, hin, _, _, rfl, rfl, k _ (hb.trans S5)⟩
end
end T08

set_option Elab.async false
set_option linter.all false
set_option maxRecDepth 100000
set_option maxHeartbeats 4000000
namespace T08
open PySem L2 EK
def spCkN (CN : Addr) : Sp := fun vs H Q E => ∃ x m, vs = [x, .int m] ∧ Pl H x ∧ (numB x m = true → Q .non H) ∧ (numB x m = false → ∀ d, H d = none → E (.ref CN) (some d) (upd H d (.xd [("number", x)])))
def spCkC (CC : Addr) : Sp := fun vs H Q E => ∃ x b, vs = [x] ∧ IsC H x b ∧ ∀ H', Same H H' → (b = true → Q .non H') ∧ (b = false → ∀ d, H' d = none → E (.ref CC) (some d) (upd H' d (.xd [("counts", x)])))
section
variable {P : Program} {w : World} {K : PySem.W.Frag} {mg : Str → Option Value} {base : Heap}
theorem scCkN : FnScope ["number", "least"] ["number", "least"] (defScope sCkNumber) := ⟨rfl, rfl, rfl, by decide +kernel, rfl, by decide +kernel, by decide +kernel⟩
theorem scCkC : FnScope ["counts"] ["counts"] (defScope sCkCounts) := ⟨rfl, rfl, rfl, by decide +kernel, rfl, by decide +kernel, by decide +kernel⟩
theorem ok_ckN {f fN CN iN : Addr} {fd fdN : FuncData} (F : Fun K "check_number" "check_number" sCkNumber f fd) (TN : ErrTxt P K mg "NoNumber" "number" CN iN)
    (GN : FnOk P w K mg base CX0 1 fN fdN ["value", "least"] spNumber) (gN : mg "is_number" = some (.ref fN)) (kN : PySem.W.keepIn K (.ref fN) = true) (bN : Binds K fdN ["value", "least"] []) :
    FnOk P w K mg base (L2.CX P w) 3 f fd ["number", "least"] (spCkN CN) := by
  refine F.okX scCkN (fun vs H Q E h => ?_) (fun cdv A outer s H vs Q E hr h => ?_)
  · obtain ⟨x, m, rfl, _⟩ := h
    rfl
  · obtain ⟨x, m, rfl, hp, k1, k2⟩ := h
    have nd := scCkN.nd
    have hr1 : Room 1 _ := hr.mono (by decide)
    refine ⟨_, pss_one (ps_if (pt_not (pt_val (pe_call GN hr1 rfl gN kN bN .nil pass0 (pa_cons (pv 0) (pa_cons (pv 1) pa_nil))))) (pss_one (ps_raiseErr rfl TN hr (takes_of rfl rfl rfl rfl) (pa_cons (pv 0) pa_nil) rfl)) pss_nil), ?_⟩
    refine ⟨_, rfl, _, rfl, x, m, rfl, hp, _, rfl, ?_⟩
    by_cases hb : numB x m = true
    · rw [hb]
      exact k1 hb
    · rw [Bool.not_eq_true] at hb
      rw [hb]
      exact ⟨_, rfl, x, rfl, fun d hd => k2 hb d hd⟩
theorem ok_ckC {f fC CC iC : Addr} {fd fdC : FuncData} (F : Fun K "check_counts" "check_counts" sCkCounts f fd) (TC : ErrTxt P K mg "NoCounts" "counts" CC iC)
    (GC : FnOk P w K mg base CX0 3 fC fdC ["value"] spCounts) (gC : mg "is_counts" = some (.ref fC)) (kC : PySem.W.keepIn K (.ref fC) = true) (bC : Binds K fdC ["value"] []) :
    FnOk P w K mg base (L2.CX P w) 4 f fd ["counts"] (spCkC CC) := by
  refine F.okX scCkC (fun vs H Q E h => ?_) (fun cdv A outer s H vs Q E hr h => ?_)
  · obtain ⟨x, b, rfl, _⟩ := h
    rfl
  · obtain ⟨x, b, rfl, hc, k⟩ := h
    have nd := scCkC.nd
    have hr3 : Room 3 _ := hr
    refine ⟨_, pss_one (ps_if (pt_not (pt_val (pe_call GC hr3 rfl gC kC bC .nil pass0 (pa_cons (pv 0) pa_nil)))) (pss_one (ps_raiseErr rfl TC hr (takes_of rfl rfl rfl rfl) (pa_cons (pv 0) pa_nil) rfl)) pss_nil), ?_⟩
    refine ⟨_, rfl, x, b, rfl, hc, fun H1 s1 => ⟨_, rfl, ?_⟩⟩
    obtain ⟨k1, k2⟩ := k H1 s1
    by_cases hb : b = true
    · rw [hb]
      exact k1 hb
    · rw [Bool.not_eq_true] at hb
      rw [hb]
      exact ⟨_, rfl, x, rfl, fun d hd => k2 hb d hd⟩
end
end T08

set_option Elab.async false
set_option linter.all false
set_option maxRecDepth 100000
set_option maxHeartbeats 4000000
namespace T08
open PySem L2 EK
abbrev sTexts : Stmt := top 15
abbrev sLists : Stmt := top 16
abbrev sRows : Stmt := top 17
abbrev sRings : Stmt := top 18
abbrev sTurns : Stmt := top 19
abbrev sArr : Stmt := top 20
abbrev sPR : Stmt := top 21
abbrev sPW : Stmt := top 22
abbrev sShares : Stmt := top 23
theorem comb_small {a b : Int} (h0 : 0 ≤ b) (h : b ≤ a) (ha : a ≤ 310) : (PySem.W.mcComb a b).natAbs < 2 ^ 20000 := by
  have hn := PySem.W.mc_fp_abs (n := a) (by omega) (by omega) (min b (a - b)).toNat (by omega)
  have h1 := PySem.W.mc_fp_pos (n := a) (min b (a - b)).toNat (by omega)
  have hq : PySem.W.mcComb a b = Builtin.Math.fallingProduct a (min b (a - b)).toNat / Builtin.Math.fallingProduct (min b (a - b)) (min b (a - b)).toNat := PySem.W.mcComb_at h0 h rfl
  have hlo : 1 ≤ PySem.W.mcComb a b := PySem.W.mcComb_pos h0 h
  have hle : PySem.W.mcComb a b ≤ Builtin.Math.fallingProduct a (min b (a - b)).toNat := by
    rw [hq]
    exact Int.ediv_le_self _ (by omega)
  have hab : (PySem.W.mcComb a b).natAbs ≤ (Builtin.Math.fallingProduct a (min b (a - b)).toNat).natAbs := by omega
  exact Nat.lt_of_le_of_lt (Nat.le_trans hab hn) (Nat.pow_lt_pow_right (by decide) (by omega))
theorem ip_mulW {X : Cx} : PIp X .Mult (rI CMulW fun i j => .int (i * j)) := (opI fun _ _ _ _ _ _ _ hc q => PyProof.Rows.imul_int q hc.ok : OpR X (inplaceOp .Mult) (rI CMulW fun i j => .int (i * j)))
theorem ints_at {ms : List Int} {i : Nat} {y : V} (h : (ms.map V.int)[i]? = some y) : ∃ z, ms[i]? = some z ∧ y = V.int z := by
  rw [List.getElem?_map] at h
  cases e : ms[i]? with
  | none => rw [e] at h; cases h
  | some z => rw [e] at h; exact ⟨z, rfl, (Option.some.inj h).symm⟩
theorem ints_len {ms : List Int} {i : Nat} {y : Int} (h : ms[i]? = some y) : i < ms.length := (List.getElem?_eq_some_iff.mp h).1
structure TxtN (K : PySem.W.Frag) (mg : Str → Option Value) : Prop where
  comb : mg "comb" = some (.builtin "math.comb")
  gcd : mg "gcd" = some (.builtin "math.gcd")
  range : mg "range" = none
  list : mg "list" = none
  sum : mg "sum" = none
/-- sizes of a word -/
structure Sz (ns : List Int) : Prop where
  pos : ∀ n ∈ ns, 0 ≤ n
  tot : ns.sum ≤ 300
  len : ns.length ≤ 27
theorem sum_nonneg : ∀ {ns : List Int}, (∀ n ∈ ns, 0 ≤ n) → 0 ≤ ns.sum
  | [], _ => by simp
  | n :: ns, h => by
    have h1 := h n List.mem_cons_self
    have h2 := sum_nonneg (ns := ns) fun m hm => h m (List.mem_cons_of_mem _ hm)
    rw [List.sum_cons]
    omega
theorem take_sum {ns : List Int} (h : ∀ n ∈ ns, 0 ≤ n) {i : Nat} {n : Int} (e : ns[i]? = some n) : (ns.take (i + 1)).sum = (ns.take i).sum + n ∧ 0 ≤ (ns.take i).sum ∧ 0 ≤ n ∧ (ns.take i).sum + n ≤ ns.sum := by
  have hn : n ∈ ns := List.mem_of_getElem? e
  have e1 : (ns.take (i + 1)).sum = (ns.take i).sum + n := by
    rw [List.take_succ, e, List.sum_append]
    simp
  have e2 : ns.sum = (ns.take (i + 1)).sum + (ns.drop (i + 1)).sum := by rw [← List.sum_append, List.take_append_drop]
  have h1 := sum_nonneg (ns := ns.take i) fun m hm => h m (List.mem_of_mem_take hm)
  have h2 := sum_nonneg (ns := ns.drop (i + 1)) fun m hm => h m (List.mem_of_mem_drop hm)
  exact ⟨e1, h1, h n hn, by omega⟩
def spArr (K : PySem.W.Frag) : Sp := fun vs H Q _ => ∃ (a : Addr) (ns : List Int), vs = [.ref a] ∧ SqL K H a (ns.map V.int) ∧ Sz ns ∧ ∀ v, Q (.int v) H
section
variable {P : Program} {w : World} {K : PySem.W.Frag} {mg : Str → Option Value} {base : Heap}
theorem scArr : FnScope ["sizes", "total", "ways", "size"] ["sizes"] (defScope sArr) := ⟨rfl, rfl, rfl, by decide +kernel, rfl, by decide +kernel, by decide +kernel⟩
theorem ok_arr {f : Addr} {fd : FuncData} (F : Fun K "_arrangements" "_arrangements" sArr f fd) (T : TxtN K mg) : FnOk P w K mg base CX0 1 f fd ["sizes"] (spArr K) := by
  refine F.ok scArr (fun vs H Q E h => ?_) (fun cdv A outer s H vs Q E hr h => ?_)
  · obtain ⟨a, ns, rfl, _⟩ := h
    rfl
  · obtain ⟨a, ns, rfl, hs, hz, k⟩ := h
    have nd := scArr.nd
    refine ⟨_, (pss_cons (ps_set (i := 1) nd rfl (Or.inl rfl) pe_int)
      (pss_cons (ps_set (i := 2) nd rfl (Or.inl rfl) pe_int)
      (pss_cons (ps_for PassesOwn.never rfl (pi_list (pv 0)) (pg_name (i := 3) nd rfl (Or.inl rfl)) (pss_cons (ps_aug (i := 1) nd rfl (.inl rfl) (pv 3) ip_add)
      (pss_one (ps_aug (i := 2) nd rfl (.inl rfl) (pe_callBfun cr_comb (by rfl) T.comb (pa_cons (pv 1) (pa_cons (pv 3) pa_nil))) ip_mulW))))
      (pss_one (ps_ret (pv 2)))))), ?_⟩
    refine ⟨_, rfl, a, rfl, ⟨_, hs⟩, for_list (K := K) (a := a) (xs := ns.map V.int) (fun i σ H' => ∃ (t wv : Int) (v3 : Option V), σ = [some (.ref a), some (.int t), some (.int wv), v3] ∧ H' = H ∧ t = (ns.take i).sum ∧ wv.natAbs < 2 ^ (20000 * i + 1)) ⟨_, _, _, rfl, rfl, rfl, by decide⟩ (fun i σ H' _ ⟨_, _, _, _, e, _⟩ => by rw [e]; exact hs) ?_ ?_⟩
    · rintro i y σ H1 hi ⟨t, wv, v3, rfl, rfl, rfl, hw⟩
      obtain ⟨n, hn, rfl⟩ := ints_at hi
      obtain ⟨t1, t2, t3, t4⟩ := take_sum hz.pos hn
      have t5 := hz.tot
      have hil := ints_len hn
      have hl := hz.len
      refine ⟨_, rfl, _, rfl, _, _, rfl, rfl, ?_⟩
      have p1 : (0 : Int) ≤ (ns.take i).sum + n := by omega
      have p2 : (ns.take i).sum + n < 2 ^ 64 := by omega
      refine ⟨_, rfl, _, rfl, _, rfl, _, _, rfl, p1, t3, p2, by omega, ?_⟩
      have hc := comb_small (a := (ns.take i).sum + n) (b := n) t3 (by omega) (by omega)
      refine ⟨_, _, rfl, rfl, wide_mul hw hc (by omega) (by decide) (by omega), ?_⟩
      refine ⟨_, _, _, rfl, rfl, t1.symm, ?_⟩
      have hm := wide_lt hw hc
      rw [show 20000 * (i + 1) + 1 = 20000 * i + 1 + 20000 from by omega]
      exact hm
    · rintro σ H1 ⟨t, wv, v3, rfl, rfl, rfl, hw⟩
      exact ⟨_, rfl, k _⟩
/-- shares: each with its number -/
structure Shares (ns : List Int) (H : Hp) (L : List (Addr × Int)) : Prop where
  at_ : ∀ q ∈ L, 1 ≤ q.2 ∧ q.2 ≤ ns.sum ∧ H q.1 = some (.lst ((ns.map fun n => n / q.2).map V.int))
  two : ∀ q ∈ L.drop 1, 2 ≤ q.2
theorem Shares.keep {ns : List Int} {H H' : Hp} {L : List (Addr × Int)} (h : Shares ns H L) (s : Same H H') : Shares ns H' L := ⟨fun q hq => ⟨(h.at_ q hq).1, (h.at_ q hq).2.1, s _ _ (h.at_ q hq).2.2⟩, h.two⟩
def spShares (K : PySem.W.Frag) : Sp := fun vs H Q _ => ∃ (a : Addr) (ns : List Int), vs = [.ref a] ∧ SqL K H a (ns.map V.int) ∧ Sz ns ∧ ∀ H' p L, Same H H' → H' p = some (.lst (L.map fun q : Addr × Int => V.ref q.1)) → L.length ≤ 300 → Shares ns H' L → Q (.ref p) H'
def scK : Scope := { kind := .function, names := [(".0", .local), ("k", .cell), ("common", .cell), ("sizes", .cell)], isGenerator := false, isCoroutine := false }
theorem scShares : FnScope ["sizes", "common", "size", "each", "k"] ["sizes"] (defScope sShares) := ⟨rfl, rfl, rfl, by decide +kernel, rfl, by decide +kernel, by decide +kernel⟩
theorem ok_shares {f : Addr} {fd : FuncData} (F : Fun K "_shares" "_shares" sShares f fd) (T : TxtN K mg) : FnOk P w K mg base CX0 1 f fd ["sizes"] (spShares K) := by
  refine F.ok scShares (fun vs H Q E h => ?_) (fun cdv A outer s H vs Q E hr h => ?_)
  · obtain ⟨a, ns, rfl, _⟩ := h
    rfl
  · obtain ⟨a, ns, rfl, hs, hz, k⟩ := h
    have nd := scShares.nd
    refine ⟨_, (pss_cons (ps_set (i := 1) nd rfl (Or.inr rfl) pe_int)
      (pss_cons (ps_for PassesOwn.never rfl (pi_list (pv 0)) (pg_name (i := 2) nd rfl (Or.inl rfl)) (pss_one (ps_set (i := 1) nd rfl (Or.inr rfl) (pe_callBfun cr_gcd (by rfl) T.gcd (pa_cons (pv 1) (pa_cons (pv 2) pa_nil))))))
      (pss_one (ps_ret (pe_lc (own := [("k", 4)]) (g := gName 4) (te := tLc (iList K (tVar 0)) (gName 3) tYes (tOp (rI CDiv fun i j => .int (i / j)) (tVar 3) (tVar 4)) [3]) rfl nd (pi_range2 (by rfl) T.range (pa_cons pe_int (pa_cons (pe_op op_add (pv 1) pe_int) pa_nil))) (blkOk_by (N := ["sizes", "common", "size", "each", "k"]) (sc := defScope sShares) (by decide +kernel)) (fun _ _ _ _ _ => (pg_name (i := 4) nd rfl (Or.inr rfl))) (fun _ _ _ _ _ => (pts_one (pt_cmpR op_eq (pe_op op_mod (pv 1) (pv 4)) pe_int (nomark _)))) (fun _ _ _ _ _ => (pe_lc (own := [("each", 3)]) (g := gName 3) (tt := tYes) rfl nd (pi_list (X := Cx.blk _ _ _ _ _ _) (pv 0)) (blkOk_by (N := ["sizes", "common", "size", "each", "k"]) (sc := scK) (by decide +kernel)) (fun _ _ _ _ _ => (pg_name (i := 3) nd rfl (Or.inl rfl))) (fun _ _ _ _ _ => pts_nil) (fun _ _ _ _ _ => (pe_op op_fdiv (pv 3) (pv 4)))))))))), ?_⟩
    refine ⟨_, rfl, a, rfl, ⟨_, hs⟩, for_list (K := K) (a := a) (xs := ns.map V.int) (fun i σ H' => ∃ (c : Int) (v2 : Option V), σ = [some (.ref a), some (.int c), v2, none, none] ∧ H' = H ∧ 0 ≤ c ∧ c ≤ (ns.take i).sum) ⟨_, _, rfl, rfl, by decide, by simp⟩ (fun i σ H' _ ⟨_, _, _, e, _⟩ => by rw [e]; exact hs) ?_ ?_⟩
    · rintro i y σ H1 hi ⟨c, v2, rfl, rfl, hc0, hc⟩
      obtain ⟨n, hn, rfl⟩ := ints_at hi
      obtain ⟨t1, t2, t3, t4⟩ := take_sum hz.pos hn
      refine ⟨_, rfl, _, rfl, _, _, rfl, ?_⟩
      refine ⟨_, _, rfl, rfl, Int.natCast_nonneg _, ?_⟩
      rw [t1]
      by_cases h0 : c.natAbs = 0
      · rw [h0, Nat.gcd_zero_left]
        omega
      · have := Nat.gcd_le_left n.natAbs (Nat.pos_of_ne_zero h0)
        omega
    · rintro σ H1 ⟨c, v2, rfl, rfl, hc0, hc⟩
      rw [List.length_map, List.take_length] at hc
      have hct := hz.tot
      refine ⟨_, rfl, _, _, rfl, rfl, 1, c + 1, rfl, ⟨by decide, by decide, by omega, by omega⟩, fun D hD => lc_range (lo := 1) (n := (c + 1 - 1).toNat) (fun i Hc => Same H1 Hc ∧ ∃ L : List (Addr × Int), Hc D = some (.lst (L.map fun q : Addr × Int => V.ref q.1)) ∧ L.length ≤ i ∧ (∀ q ∈ L, 1 ≤ q.2 ∧ q.2 ≤ ns.sum ∧ q.1 ≠ D ∧ Hc q.1 = some (.lst ((ns.map fun n => n / q.2).map V.int))) ∧ ∀ q ∈ L.drop 1, 2 ≤ q.2)
        ⟨fun b o e => by rw [upd_ne (ne_of_none e hD)]; exact e, [], upd_same, Nat.le_refl _, fun q hq => (by cases hq), fun q hq => (by cases hq)⟩ ?_ ?_⟩
      · rintro i Hc hi ⟨s1, L, d1, l1, h1, h2⟩
        have hk : ((c + 1 - 1).toNat : Int) = c := by omega
        refine ⟨rfl, ?_⟩
        have ki : (0 : Int) < 1 + (i : Int) := by omega
        refine ⟨_, rfl, _, rfl, _, _, rfl, rfl, ki, rfl, _, rfl, ?_⟩
        by_cases hm : (decide (V.int (c % (1 + (i : Int))) = V.int 0)) = true
        · rw [hm]
          have hD2 : ∀ D2, Hc D2 = none → D2 ≠ D := fun D2 h e => by rw [e, d1] at h; cases h
          refine ⟨_, rfl, a, rfl, ⟨_, s1.seq hs⟩, fun D2 h2D => lc_list (K := K) (a := a) (xs := ns.map V.int) (fun j H4 => Same Hc H4 ∧ H4 D2 = some (.lst (((ns.take j).map fun n => n / (1 + (i : Int))).map V.int))) ⟨fun b o e => by rw [upd_ne (ne_of_none e h2D)]; exact e, upd_same⟩ (fun j H4 _ h => (s1.trans h.1).seq hs) ?_ ?_⟩
          · rintro j y H4 hj ⟨s4, d4⟩
            obtain ⟨n, hn, rfl⟩ := ints_at hj
            have hjl := ints_len hn
            have hzl := hz.len
            refine ⟨rfl, _, rfl, _, rfl, _, _, rfl, rfl, ⟨ki, by omega⟩, _, d4, ?_, fun b o e => ?_, ?_⟩
            · rw [List.length_map, List.length_map, List.length_take]
              exact Nat.lt_of_le_of_lt (Nat.min_le_left _ _) (Nat.lt_trans (show j < 100 by omega) (by decide))
            · rw [upd_ne (ne_of_none e h2D)]
              exact s4 _ _ e
            · rw [upd_same, List.take_succ, hn, List.map_append, List.map_append]
              rfl
          · rintro H4 ⟨s4, d4⟩
            rw [List.length_map, List.take_length] at d4
            have nD := hD2 D2 h2D
            refine ⟨_, s4 _ _ d1, ?_, fun b o e => ?_, L ++ [(D2, 1 + (i : Int))], ?_, ?_, fun q hq => ?_, ?_⟩
            · rw [List.length_map]
              exact Nat.lt_of_le_of_lt (show L.length ≤ 1000 by omega) (by decide)
            · rw [upd_ne (ne_of_none e hD)]
              exact s4 _ _ (s1 _ _ e)
            · rw [upd_same, List.map_append]
              rfl
            · rw [List.length_append]
              show L.length + 1 ≤ i + 1
              omega
            · rcases List.mem_append.mp hq with hq | hq
              · obtain ⟨z1, z2, z3, z4⟩ := h1 q hq
                exact ⟨z1, z2, z3, by rw [upd_ne z3]; exact s4 _ _ z4⟩
              · obtain rfl := List.mem_singleton.mp hq
                exact ⟨by show (1 : Int) ≤ 1 + (i : Int); omega, by show 1 + (i : Int) ≤ _; omega, nD, by rw [upd_ne nD]; exact d4⟩
            · cases L with
              | nil => intro q hq; cases hq
              | cons q0 L =>
                intro q hq
                have hq : q ∈ L ++ [(D2, 1 + (i : Int))] := hq
                have l1 : L.length + 1 ≤ i := l1
                rcases List.mem_append.mp hq with hq | hq
                · exact h2 q hq
                · obtain rfl := List.mem_singleton.mp hq
                  show (2 : Int) ≤ 1 + (i : Int)
                  omega
        · rw [Bool.not_eq_true] at hm
          rw [hm]
          exact ⟨s1, L, d1, by omega, h1, h2⟩
      · rintro Hc ⟨s1, L, d1, l1, h1, h2⟩
        exact k Hc D L s1 d1 (by omega) ⟨fun q hq => ⟨(h1 q hq).1, (h1 q hq).2.1, (h1 q hq).2.2.2⟩, h2⟩
end
end T08

set_option Elab.async false
set_option linter.all false
set_option maxRecDepth 100000
set_option maxHeartbeats 4000000
namespace T08
open PySem L2 EK
def spPW (K : PySem.W.Frag) : Nat → Sp
  | 0 => fun _ _ _ _ => False
  | d + 1 => fun vs H Q _ => ∃ (a : Addr) (ns : List Int), vs = [.ref a] ∧ SqL K H a (ns.map V.int) ∧ Sz ns ∧ ns.sum < 2 ^ d ∧ ∀ H' v, Same H H' → Q (.int v) H'
def spPR (K : PySem.W.Frag) : Sp := fun vs H Q _ => ∃ (a : Addr) (ns : List Int), vs = [.ref a] ∧ SqL K H a (ns.map V.int) ∧ Sz ns ∧ ∀ H' v, Same H H' → Q (.int v) H'
theorem share_sum {k : Int} (hk : 1 ≤ k) : ∀ {ns : List Int}, (∀ n ∈ ns, 0 ≤ n) → k * (ns.map fun n => n / k).sum ≤ ns.sum
  | [], _ => by simp
  | n :: ns, h => by
    have h2 := share_sum hk (ns := ns) fun m hm => h m (List.mem_cons_of_mem _ hm)
    rw [List.map_cons, List.sum_cons, List.sum_cons, Int.mul_add]
    have := Int.mul_ediv_self_le (x := n) (k := k) (by omega)
    omega
theorem share_sz {ns : List Int} {k : Int} (hz : Sz ns) (hk : 1 ≤ k) : Sz (ns.map fun n => n / k) ∧ k * (ns.map fun n => n / k).sum ≤ ns.sum ∧ 0 ≤ (ns.map fun n => n / k).sum := by
  have hp : ∀ n ∈ ns.map (fun n => n / k), 0 ≤ n := fun n hn => by
    obtain ⟨m, hm, rfl⟩ := List.mem_map.mp hn
    exact Int.ediv_nonneg (hz.pos m hm) (by omega)
  have h1 := share_sum hk hz.pos
  have h0 := sum_nonneg hp
  refine ⟨⟨hp, ?_, by rw [List.length_map]; exact hz.len⟩, h1, h0⟩
  have h2 : 1 * (ns.map fun n => n / k).sum ≤ k * (ns.map fun n => n / k).sum := Int.mul_le_mul_of_nonneg_right hk h0
  have := hz.tot
  omega
section
variable {P : Program} {w : World} {K : PySem.W.Frag} {mg : Str → Option Value} {base : Heap}
theorem scPW : FnScope ["sizes", "others", "share"] ["sizes"] (defScope sPW) := ⟨rfl, rfl, rfl, by decide +kernel, rfl, by decide +kernel, by decide +kernel⟩
theorem scPR : FnScope ["sizes", "total"] ["sizes"] (defScope sPR) := ⟨rfl, rfl, rfl, by decide +kernel, rfl, by decide +kernel, by decide +kernel⟩
theorem cut_tail (xs : List V) : cutV xs (some 1) none = xs.drop 1 := by
  unfold cutV
  have e0 : HT.sIx xs.length 0 (some 1) = min 1 xs.length := HT.sIx_nat _ _ 1
  rw [HT.sIx_none, e0]
  cases xs with
  | nil => rfl
  | cons x xs =>
    have e : min 1 (x :: xs).length = 1 := by rw [List.length_cons]; omega
    rw [e]
    exact List.take_of_length_le (by rw [List.length_drop]; exact Nat.le_refl _)
theorem ok_pw {f fS fA : Addr} {fd fdS fdA : FuncData} (F : Fun K "_primitive_words" "_primitive_words" sPW f fd) (T : TxtN K mg) (gP : mg "_primitive_words" = some (.ref f)) (kP : PySem.W.keepIn K (.ref f) = true) (bP : Binds K fd ["sizes"] [])
    (GS : FnOk P w K mg base CX0 1 fS fdS ["sizes"] (spShares K)) (gS : mg "_shares" = some (.ref fS)) (kS : PySem.W.keepIn K (.ref fS) = true) (bS : Binds K fdS ["sizes"] [])
    (GA : FnOk P w K mg base CX0 1 fA fdA ["sizes"] (spArr K)) (gA : mg "_arrangements" = some (.ref fA)) (kA : PySem.W.keepIn K (.ref fA) = true) (bA : Binds K fdA ["sizes"] []) :
    ∀ d, FnOk P w K mg base CX0 (d + 1) f fd ["sizes"] (spPW K d)
  | 0 => F.ok scPW (fun vs H Q E h => h.elim) (fun cdv A outer s H vs Q E hr h => h.elim)
  | d + 1 => by
    have GP := ok_pw F T gP kP bP GS gS kS bS GA gA kA bA d
    refine F.ok scPW (fun vs H Q E h => ?_) (fun cdv A outer s H vs Q E hr h => ?_)
    · obtain ⟨a, ns, rfl, _⟩ := h
      rfl
    · obtain ⟨a, ns, rfl, hs, hz, hd, k⟩ := h
      have nd := scPW.nd
      have hrP : Room (d + 1) _ := hr
      have hr1 : Room 1 _ := hr.mono (by omega)
      refine ⟨_, (pss_cons (ps_setLc (i := 1) (own := [("share", 2)]) (g := gName 2) (tt := tYes) rfl nd rfl rfl (sw_true rfl rfl rfl (by decide +kernel)) (pi_list (pe_slice sl_list (pe_call GS hr1 rfl gS kS bS .nil pass0 (pa_cons (pv 0) pa_nil)) (po_some pe_int) po_none)) (blkOk_by (N := ["sizes", "others", "share"]) (sc := defScope sPW) (by decide +kernel)) (fun _ _ _ _ _ => (pg_name (i := 2) nd rfl (Or.inl rfl))) (fun _ _ _ _ _ => pts_nil) (fun _ _ _ _ _ => (pe_call GP hrP rfl gP kP bP .nil pass0 (pa_cons (pv 2) pa_nil))))
        (pss_one (ps_ret (pe_op op_sub (pe_call GA hr1 rfl gA kA bA .nil pass0 (pa_cons (pv 0) pa_nil)) (pe_callB (cr_sum rfl) (by rfl) T.sum (by decide +kernel) (pa_cons (pv 1) pa_nil)))))), ?_⟩
      refine ⟨_, rfl, a, ns, rfl, hs, hz, fun H1 p L s1 hp hl sh => ?_⟩
      refine ⟨_, rfl, p, _, rfl, .of hp, fun p2 z2 => ?_⟩
      rw [cut_tail, ← List.map_drop]
      obtain ⟨H2, e2, S2, A2⟩ := alloc (o := .lst ((L.drop 1).map fun q : Addr × Int => V.ref q.1)) z2
      rw [e2]
      refine ⟨p2, rfl, ⟨_, .of A2⟩, fun D hD => lc_list (K := K) (a := p2) (xs := (L.drop 1).map fun q : Addr × Int => V.ref q.1) (fun i H' => Same H2 H' ∧ ∃ ws : List Int, H' D = some (.lst (ws.map V.int)) ∧ ws.length ≤ i) ⟨fun b o e => by rw [upd_ne (ne_of_none e hD)]; exact e, [], upd_same, Nat.le_refl _⟩ (fun i H' _ h => .of (h.1 _ _ A2)) ?_ ?_⟩
      · rintro i x H3 hx ⟨s3, ws, d3, l3⟩
        rw [List.getElem?_map] at hx
        obtain ⟨q, hq, rfl⟩ := Option.map_eq_some_iff.mp hx
        have hm := List.mem_of_getElem? hq
        have hi : i < 300 := by
          have := (List.getElem?_eq_some_iff.mp hq).1
          rw [List.length_drop] at this
          omega
        have q2 := sh.two q hm
        obtain ⟨q1, q3, q4⟩ := sh.at_ q (List.mem_of_mem_drop hm)
        obtain ⟨z1, z3, z4⟩ := share_sz hz q1
        have half : 2 * (ns.map fun n => n / q.2).sum ≤ ns.sum := by
          have : 2 * (ns.map fun n => n / q.2).sum ≤ q.2 * (ns.map fun n => n / q.2).sum := Int.mul_le_mul_of_nonneg_right q2 z4
          omega
        refine ⟨rfl, _, rfl, ?_⟩
        cases d with
        | zero =>
          have hd : ns.sum < 1 := hd
          exact (by omega : False).elim
        | succ e =>
          have hd2 : ns.sum < 2 * 2 ^ e := by rw [Int.pow_succ] at hd; omega
          refine ⟨q.1, _, rfl, .of (s3 _ _ (S2 _ _ q4)), z1, by omega, fun H4 v s4 => ⟨_, s4 _ _ d3, ?_, fun b o e => ?_, ws ++ [v], ?_, ?_⟩⟩
          · rw [List.length_map]
            exact Nat.lt_of_le_of_lt (show ws.length ≤ 1000 by omega) (by decide)
          · rw [upd_ne (ne_of_none e hD)]
            exact s4 _ _ (s3 _ _ e)
          · rw [upd_same, List.map_append]
            rfl
          · rw [List.length_append]
            show ws.length + 1 ≤ i + 1
            omega
      · rintro H3 ⟨s3, ws, d3, l3⟩
        have sA : Same H H3 := (s1.trans S2).trans s3
        exact ⟨_, rfl, a, ns, rfl, sA.seq hs, hz, fun v => ⟨_, rfl, D, ws, rfl, .of d3, _, _, rfl, rfl, k _ _ sA⟩⟩
theorem ok_pr {f fP : Addr} {fd fdP : FuncData} (F : Fun K "_primitive_rings" "_primitive_rings" sPR f fd) (T : TxtN K mg) (gP : mg "_primitive_words" = some (.ref fP)) (kP : PySem.W.keepIn K (.ref fP) = true) (bP : Binds K fdP ["sizes"] [])
    (GP : FnOk P w K mg base CX0 11 fP fdP ["sizes"] (spPW K 10)) : FnOk P w K mg base CX0 12 f fd ["sizes"] (spPR K) := by
  refine F.ok scPR (fun vs H Q E h => ?_) (fun cdv A outer s H vs Q E hr h => ?_)
  · obtain ⟨a, ns, rfl, _⟩ := h
    rfl
  · obtain ⟨a, ns, rfl, hs, hz, k⟩ := h
    have nd := scPR.nd
    have hrP : Room 11 _ := hr
    refine ⟨_, (pss_cons (ps_set (i := 1) nd rfl (Or.inl rfl) (pe_callB (cr_sum rfl) (by rfl) T.sum (by decide +kernel) (pa_cons (pv 0) pa_nil)))
      (pss_cons (ps_if (pt_cmpR op_eq (pv 1) pe_int (nomark _)) (pss_one (ps_ret pe_int)) pss_nil)
      (pss_one (ps_ret (pe_op op_fdiv (pe_call GP hrP rfl gP kP bP .nil pass0 (pa_cons (pv 0) pa_nil)) (pv 1)))))), ?_⟩
    have h0 := sum_nonneg hz.pos
    have ht := hz.tot
    refine ⟨_, rfl, a, ns, rfl, hs, _, rfl, rfl, _, rfl, ?_⟩
    by_cases hd : ns.sum = 0
    · rw [decide_eq_true (by rw [hd])]
      exact k _ _ (.refl _)
    · rw [decide_eq_false (fun z => hd (by injection z))]
      refine ⟨_, rfl, a, ns, rfl, hs, hz, by show ns.sum < 512; omega, fun H1 v s1 => ⟨_, rfl, _, _, rfl, rfl, ⟨by omega, by omega⟩, k _ _ s1⟩⟩
end
end T08

set_option Elab.async false
set_option linter.all false
set_option maxRecDepth 100000
set_option maxHeartbeats 4000000
namespace T08
open PySem L2 EK
/-- good counts -/
structure GoodC (H : Hp) (x : V) (a : Addr) (kvs : List (Key × V)) (ns : List Int) : Prop where
  eq : x = .ref a
  at_ : H a = some (.dK kvs)
  is : IsC H x true
  vals : kvs.map (·.2) = ns.map V.int
  sz : Sz ns
  few : ns.length ≤ 5
def badC (CC : Addr) (H : Hp) (x : V) (E : XK) : Prop := IsC H x false ∧ ∀ H' d, Same H H' → H' d = none → E (.ref CC) (some d) (upd H' d (.xd [("counts", x)]))
def spN1 (CC : Addr) : Sp := fun vs H Q E => ∃ x, vs = [x] ∧ (badC CC H x E ∨ ∃ a kvs ns, GoodC H x a kvs ns ∧ ∀ H' v, Same H H' → Q (.int v) H')
def spN2 (CC CN : Addr) : Sp := fun vs H Q E => ∃ x y, vs = [x, y] ∧ (badC CC H x E ∨ ∃ a kvs ns, GoodC H x a kvs ns ∧ ((y = .int 0 ∧ ∀ H' v, Same H H' → Q (.int v) H') ∨ (Pl H y ∧ numB y 0 = false ∧ ∀ H' d, Same H H' → H' d = none → E (.ref CN) (some d) (upd H' d (.xd [("number", y)])))))
section
variable {P : Program} {w : World} {K : PySem.W.Frag} {mg : Str → Option Value} {base : Heap} {CC CN : Addr}
theorem scTexts : FnScope ["counts"] ["counts"] (defScope sTexts) := ⟨rfl, rfl, rfl, by decide +kernel, rfl, by decide +kernel, by decide +kernel⟩
theorem scRings : FnScope ["counts"] ["counts"] (defScope sRings) := ⟨rfl, rfl, rfl, by decide +kernel, rfl, by decide +kernel, by decide +kernel⟩
theorem scTurns : FnScope ["counts", "share"] ["counts"] (defScope sTurns) := ⟨rfl, rfl, rfl, by decide +kernel, rfl, by decide +kernel, by decide +kernel⟩
theorem scLists : FnScope ["counts", "m", "sizes", "total"] ["counts", "m"] (defScope sLists) := ⟨rfl, rfl, rfl, by decide +kernel, rfl, by decide +kernel, by decide +kernel⟩
theorem scRows : FnScope ["counts", "m"] ["counts", "m"] (defScope sRows) := ⟨rfl, rfl, rfl, by decide +kernel, rfl, by decide +kernel, by decide +kernel⟩
theorem ok_texts {f fK fA : Addr} {fd fdK fdA : FuncData} (F : Fun K "texts_number" "texts_number" sTexts f fd) (T : TxtN K mg) (GK : FnOk P w K mg base (L2.CX P w) 4 fK fdK ["counts"] (spCkC CC)) (gK : mg "check_counts" = some (.ref fK)) (kK : PySem.W.keepIn K (.ref fK) = true) (bK : Binds K fdK ["counts"] [])
    (GA : FnOk P w K mg base CX0 1 fA fdA ["sizes"] (spArr K)) (gA : mg "_arrangements" = some (.ref fA)) (kA : PySem.W.keepIn K (.ref fA) = true) (bA : Binds K fdA ["sizes"] []) :
    FnOk P w K mg base (L2.CX P w) 14 f fd ["counts"] (spN1 CC) := by
  refine F.okX scTexts (fun vs H Q E h => ?_) (fun cdv A outer s H vs Q E hr h => ?_)
  · obtain ⟨x, rfl, _⟩ := h
    rfl
  · obtain ⟨x, rfl, h⟩ := h
    have nd := scTexts.nd
    have hr1 : Room 1 _ := hr.mono (by decide)
    have hr3 : Room 3 _ := hr.mono (by decide)
    have hr4 : Room 4 _ := hr.mono (by decide)
    have hr12 : Room 12 _ := hr.mono (by decide)
    refine ⟨_, (pss_cons (ps_expr (pe_call GK hr4 rfl gK kK bK .nil (passes_call (takes_of rfl rfl rfl rfl) fun _ _ _ _ h => h) (pa_cons (pv 0) pa_nil))) (pss_one (ps_ret (pe_call GA hr1 rfl gA kA bA .nil pass0 (pa_cons (pe_callTy (cr_listV rfl) (by rfl) T.list (by decide +kernel) (pa_cons (pe_bm0 PySem.F.plainAttrs_dict PySem.F.slot_dict_values PySem.F.type_dict_values mt_values (pv 0)) pa_nil)) pa_nil))))), ?_⟩
    rcases h with ⟨hb, e⟩ | ⟨a, kvs, ns, hg, k⟩
    · exact ⟨_, rfl, x, false, rfl, hb, fun H1 s1 => ⟨fun z => (by cases z), fun _ d hd => e H1 d s1 hd⟩⟩
    · refine ⟨_, rfl, x, true, rfl, hg.is, fun H1 s1 => ⟨fun _ => ?_, fun z => (by cases z)⟩⟩
      obtain ⟨rfl, ha, _, hv, hz, hf⟩ := hg
      have ha1 := s1 _ _ ha
      refine ⟨_, rfl, .inr (.inr (.inl ⟨rfl, .inl ⟨_, ha1⟩⟩)), a, kvs, rfl, rfl, ha1, fun r0 z0 => ?_⟩
      obtain ⟨H2, e2, S2, A2⟩ := alloc (o := vwO r0 a) z0
      rw [e2]
      refine ⟨r0, a, kvs, rfl, A2, S2 _ _ ha1, fun r1 z1 => ?_⟩
      rw [hv]
      obtain ⟨H3, e3, S3, A3⟩ := alloc (o := .lst (ns.map V.int)) z1
      rw [e3]
      have sA : Same H H3 := (s1.trans S2).trans S3
      exact ⟨r1, ns, rfl, .of A3, hz, fun v => k _ v sA⟩
theorem ok_rings {f fK fR : Addr} {fd fdK fdR : FuncData} (F : Fun K "rings_number" "rings_number" sRings f fd) (T : TxtN K mg) (GK : FnOk P w K mg base (L2.CX P w) 4 fK fdK ["counts"] (spCkC CC)) (gK : mg "check_counts" = some (.ref fK)) (kK : PySem.W.keepIn K (.ref fK) = true) (bK : Binds K fdK ["counts"] [])
    (GR : FnOk P w K mg base CX0 12 fR fdR ["sizes"] (spPR K)) (gR : mg "_primitive_rings" = some (.ref fR)) (kR : PySem.W.keepIn K (.ref fR) = true) (bR : Binds K fdR ["sizes"] []) :
    FnOk P w K mg base (L2.CX P w) 14 f fd ["counts"] (spN1 CC) := by
  refine F.okX scRings (fun vs H Q E h => ?_) (fun cdv A outer s H vs Q E hr h => ?_)
  · obtain ⟨x, rfl, _⟩ := h
    rfl
  · obtain ⟨x, rfl, h⟩ := h
    have nd := scRings.nd
    have hr1 : Room 1 _ := hr.mono (by decide)
    have hr3 : Room 3 _ := hr.mono (by decide)
    have hr4 : Room 4 _ := hr.mono (by decide)
    have hr12 : Room 12 _ := hr.mono (by decide)
    refine ⟨_, (pss_cons (ps_expr (pe_call GK hr4 rfl gK kK bK .nil (passes_call (takes_of rfl rfl rfl rfl) fun _ _ _ _ h => h) (pa_cons (pv 0) pa_nil))) (pss_one (ps_ret (pe_call GR hr12 rfl gR kR bR .nil pass0 (pa_cons (pe_callTy (cr_listV rfl) (by rfl) T.list (by decide +kernel) (pa_cons (pe_bm0 PySem.F.plainAttrs_dict PySem.F.slot_dict_values PySem.F.type_dict_values mt_values (pv 0)) pa_nil)) pa_nil))))), ?_⟩
    rcases h with ⟨hb, e⟩ | ⟨a, kvs, ns, hg, k⟩
    · exact ⟨_, rfl, x, false, rfl, hb, fun H1 s1 => ⟨fun z => (by cases z), fun _ d hd => e H1 d s1 hd⟩⟩
    · refine ⟨_, rfl, x, true, rfl, hg.is, fun H1 s1 => ⟨fun _ => ?_, fun z => (by cases z)⟩⟩
      obtain ⟨rfl, ha, _, hv, hz, hf⟩ := hg
      have ha1 := s1 _ _ ha
      refine ⟨_, rfl, .inr (.inr (.inl ⟨rfl, .inl ⟨_, ha1⟩⟩)), a, kvs, rfl, rfl, ha1, fun r0 z0 => ?_⟩
      obtain ⟨H2, e2, S2, A2⟩ := alloc (o := vwO r0 a) z0
      rw [e2]
      refine ⟨r0, a, kvs, rfl, A2, S2 _ _ ha1, fun r1 z1 => ?_⟩
      rw [hv]
      obtain ⟨H3, e3, S3, A3⟩ := alloc (o := .lst (ns.map V.int)) z1
      rw [e3]
      have sA : Same H H3 := (s1.trans S2).trans S3
      exact ⟨r1, ns, rfl, .of A3, hz, fun H4 v s4 => k _ v (sA.trans s4)⟩
theorem ok_turns {f fK fR fS : Addr} {fd fdK fdR fdS : FuncData} (F : Fun K "turns_number" "turns_number" sTurns f fd) (T : TxtN K mg) (GK : FnOk P w K mg base (L2.CX P w) 4 fK fdK ["counts"] (spCkC CC)) (gK : mg "check_counts" = some (.ref fK)) (kK : PySem.W.keepIn K (.ref fK) = true) (bK : Binds K fdK ["counts"] [])
    (GR : FnOk P w K mg base CX0 12 fR fdR ["sizes"] (spPR K)) (gR : mg "_primitive_rings" = some (.ref fR)) (kR : PySem.W.keepIn K (.ref fR) = true) (bR : Binds K fdR ["sizes"] [])
    (GS : FnOk P w K mg base CX0 1 fS fdS ["sizes"] (spShares K)) (gS : mg "_shares" = some (.ref fS)) (kS : PySem.W.keepIn K (.ref fS) = true) (bS : Binds K fdS ["sizes"] []) :
    FnOk P w K mg base (L2.CX P w) 14 f fd ["counts"] (spN1 CC) := by
  refine F.okX scTurns (fun vs H Q E h => ?_) (fun cdv A outer s H vs Q E hr h => ?_)
  · obtain ⟨x, rfl, _⟩ := h
    rfl
  · obtain ⟨x, rfl, h⟩ := h
    have nd := scTurns.nd
    have hr1 : Room 1 _ := hr.mono (by decide)
    have hr3 : Room 3 _ := hr.mono (by decide)
    have hr4 : Room 4 _ := hr.mono (by decide)
    have hr12 : Room 12 _ := hr.mono (by decide)
    refine ⟨_, (pss_cons (ps_expr (pe_call GK hr4 rfl gK kK bK .nil (passes_call (takes_of rfl rfl rfl rfl) fun _ _ _ _ h => h) (pa_cons (pv 0) pa_nil))) (pss_one (ps_ret (pe_callB (cr_sum rfl) (by rfl) T.sum (by decide +kernel) (pa_cons (pe_lc (own := [("share", 1)]) (g := gName 1) (tt := tYes) rfl nd (pi_list (pe_call GS hr1 rfl gS kS bS .nil pass0 (pa_cons (pe_callTy (cr_listV rfl) (by rfl) T.list (by decide +kernel) (pa_cons (pe_bm0 PySem.F.plainAttrs_dict PySem.F.slot_dict_values PySem.F.type_dict_values mt_values (pv 0)) pa_nil)) pa_nil))) (blkOk_by (N := ["counts", "share"]) (sc := defScope sTurns) (by decide +kernel)) (fun _ _ _ _ _ => (pg_name (i := 1) nd rfl (Or.inl rfl))) (fun _ _ _ _ _ => pts_nil) (fun _ _ _ _ _ => (pe_call GR hr12 rfl gR kR bR .nil pass0 (pa_cons (pv 1) pa_nil)))) pa_nil))))), ?_⟩
    rcases h with ⟨hb, e⟩ | ⟨a, kvs, ns, hg, k⟩
    · exact ⟨_, rfl, x, false, rfl, hb, fun H1 s1 => ⟨fun z => (by cases z), fun _ d hd => e H1 d s1 hd⟩⟩
    · refine ⟨_, rfl, x, true, rfl, hg.is, fun H1 s1 => ⟨fun _ => ?_, fun z => (by cases z)⟩⟩
      obtain ⟨rfl, ha, _, hv, hz, hf⟩ := hg
      have ha1 := s1 _ _ ha
      refine ⟨_, rfl, .inr (.inr (.inl ⟨rfl, .inl ⟨_, ha1⟩⟩)), a, kvs, rfl, rfl, ha1, fun r0 z0 => ?_⟩
      obtain ⟨H2, e2, S2, A2⟩ := alloc (o := vwO r0 a) z0
      rw [e2]
      refine ⟨r0, a, kvs, rfl, A2, S2 _ _ ha1, fun r1 z1 => ?_⟩
      rw [hv]
      obtain ⟨H3, e3, S3, A3⟩ := alloc (o := .lst (ns.map V.int)) z1
      rw [e3]
      have sA : Same H H3 := (s1.trans S2).trans S3
      refine ⟨r1, ns, rfl, .of A3, hz, fun H4 p L s4 hp hl sh => ⟨p, rfl, ⟨_, .of hp⟩, fun D hD => lc_list (K := K) (a := p) (xs := L.map fun q : Addr × Int => V.ref q.1) (fun i H' => Same H4 H' ∧ ∃ ws : List Int, H' D = some (.lst (ws.map V.int)) ∧ ws.length ≤ i) ⟨fun b o e => by rw [upd_ne (ne_of_none e hD)]; exact e, [], upd_same, Nat.le_refl _⟩ (fun i H' _ h => .of (h.1 _ _ hp)) ?_ ?_⟩⟩
      · rintro i y H5 hy ⟨s5, ws, d5, l5⟩
        rw [List.getElem?_map] at hy
        obtain ⟨q, hq, rfl⟩ := Option.map_eq_some_iff.mp hy
        have hm := List.mem_of_getElem? hq
        have hi : i < 300 := by
          have := (List.getElem?_eq_some_iff.mp hq).1
          omega
        obtain ⟨q1, q3, q4⟩ := sh.at_ q hm
        obtain ⟨z1, z3, z4⟩ := share_sz hz q1
        refine ⟨rfl, _, rfl, q.1, _, rfl, .of (s5 _ _ q4), z1, fun H6 v s6 => ⟨_, s6 _ _ d5, ?_, fun b o e => ?_, ws ++ [v], ?_, ?_⟩⟩
        · rw [List.length_map]
          exact Nat.lt_of_le_of_lt (show ws.length ≤ 1000 by omega) (by decide)
        · rw [upd_ne (ne_of_none e hD)]
          exact s6 _ _ (s5 _ _ e)
        · rw [upd_same, List.map_append]
          rfl
        · rw [List.length_append]
          show ws.length + 1 ≤ i + 1
          omega
      · rintro H5 ⟨s5, ws, d5, l5⟩
        exact ⟨D, ws, rfl, .of d5, k _ _ ((sA.trans s4).trans s5)⟩
theorem ok_rows {f fK fA fM : Addr} {fd fdK fdA fdM : FuncData} (F : Fun K "rows_number" "rows_number" sRows f fd) (T : TxtN K mg) (GK : FnOk P w K mg base (L2.CX P w) 4 fK fdK ["counts"] (spCkC CC)) (gK : mg "check_counts" = some (.ref fK)) (kK : PySem.W.keepIn K (.ref fK) = true) (bK : Binds K fdK ["counts"] [])
    (GA : FnOk P w K mg base CX0 1 fA fdA ["sizes"] (spArr K)) (gA : mg "_arrangements" = some (.ref fA)) (kA : PySem.W.keepIn K (.ref fA) = true) (bA : Binds K fdA ["sizes"] [])
    (GM : FnOk P w K mg base (L2.CX P w) 3 fM fdM ["number", "least"] (spCkN CN)) (gM : mg "check_number" = some (.ref fM)) (kM : PySem.W.keepIn K (.ref fM) = true) (bM : Binds K fdM ["number", "least"] []) :
    FnOk P w K mg base (L2.CX P w) 14 f fd ["counts", "m"] (spN2 CC CN) := by
  refine F.okX scRows (fun vs H Q E h => ?_) (fun cdv A outer s H vs Q E hr h => ?_)
  · obtain ⟨x, y, rfl, _⟩ := h
    rfl
  · obtain ⟨x, y, rfl, h⟩ := h
    have nd := scRows.nd
    have hr1 : Room 1 _ := hr.mono (by decide)
    have hr3 : Room 3 _ := hr.mono (by decide)
    have hr4 : Room 4 _ := hr.mono (by decide)
    have hr12 : Room 12 _ := hr.mono (by decide)
    refine ⟨_, (pss_cons (ps_expr (pe_call GK hr4 rfl gK kK bK .nil (passes_call (takes_of rfl rfl rfl rfl) fun _ _ _ _ h => h) (pa_cons (pv 0) pa_nil))) (pss_cons (ps_expr (pe_call GM hr3 rfl gM kM bM .nil (passes_call (takes_of rfl rfl rfl rfl) fun _ _ _ _ h => h) (pa_cons (pv 1) (pa_cons pe_int pa_nil)))) (pss_one (ps_ret (pe_call GA hr1 rfl gA kA bA .nil pass0 (pa_cons (pe_op op_cat (pe_callTy (cr_listV rfl) (by rfl) T.list (by decide +kernel) (pa_cons (pe_bm0 PySem.F.plainAttrs_dict PySem.F.slot_dict_values PySem.F.type_dict_values mt_values (pv 0)) pa_nil)) (pe_lst (pa_cons (pv 1) pa_nil))) pa_nil)))))), ?_⟩
    rcases h with ⟨hb, e⟩ | ⟨a, kvs, ns, hg, k⟩
    · exact ⟨_, rfl, x, false, rfl, hb, fun H1 s1 => ⟨fun z => (by cases z), fun _ d hd => e H1 d s1 hd⟩⟩
    · refine ⟨_, rfl, x, true, rfl, hg.is, fun H1 s1 => ⟨fun _ => ?_, fun z => (by cases z)⟩⟩
      obtain ⟨rfl, ha, _, hv, hz, hf⟩ := hg
      have ha1 := s1 _ _ ha
      rcases k with ⟨rfl, k⟩ | ⟨hp, hb, e⟩
      rotate_left
      · exact ⟨_, rfl, y, 0, rfl, hp.keep s1, fun z => (by rw [hb] at z; cases z), fun _ d hd => e H1 d s1 hd⟩
      refine ⟨_, rfl, _, 0, rfl, .int 0, fun _ => ?_, fun z => (by cases z)⟩
      refine ⟨_, rfl, .inr (.inr (.inl ⟨rfl, .inl ⟨_, ha1⟩⟩)), a, kvs, rfl, rfl, ha1, fun r0 z0 => ?_⟩
      obtain ⟨H2, e2, S2, A2⟩ := alloc (o := vwO r0 a) z0
      rw [e2]
      refine ⟨r0, a, kvs, rfl, A2, S2 _ _ ha1, fun r1 z1 => ?_⟩
      rw [hv]
      obtain ⟨H3, e3, S3, A3⟩ := alloc (o := .lst (ns.map V.int)) z1
      rw [e3]
      have sA : Same H H3 := (s1.trans S2).trans S3
      refine ⟨_, rfl, (by show 1 ≤ sizeLine; decide), fun r2 z2 => ?_⟩
      obtain ⟨H4, e4, S4, A4⟩ := alloc (o := .lst [.int 0]) z2
      rw [e4]
      refine ⟨r1, r2, _, _, rfl, rfl, S4 _ _ A3, A4, ?_, fun r3 z3 => ?_⟩
      · rw [List.length_map]
        exact Nat.le_trans (show ns.length + 1 ≤ 1000 by omega) (by decide)
      have em : ns.map V.int ++ [V.int 0] = (ns ++ [0]).map V.int := by rw [List.map_append]; rfl
      rw [em]
      obtain ⟨H5, e5, S5, A5⟩ := alloc (o := .lst ((ns ++ [0]).map V.int)) z3
      rw [e5]
      refine ⟨r3, ns ++ [0], rfl, .of A5, ⟨fun n hn => ?_, ?_, ?_⟩, fun v => k _ v ((sA.trans S4).trans S5)⟩
      · rcases List.mem_append.mp hn with hn | hn
        · exact hz.pos n hn
        · rw [List.mem_singleton.mp hn]
          decide
      · rw [List.sum_append]
        have := hz.tot
        simpa using this
      · rw [List.length_append]
        show ns.length + 1 ≤ 27
        omega
theorem ok_lists {f fK fA fM : Addr} {fd fdK fdA fdM : FuncData} (F : Fun K "lists_number" "lists_number" sLists f fd) (T : TxtN K mg) (GK : FnOk P w K mg base (L2.CX P w) 4 fK fdK ["counts"] (spCkC CC)) (gK : mg "check_counts" = some (.ref fK)) (kK : PySem.W.keepIn K (.ref fK) = true) (bK : Binds K fdK ["counts"] [])
    (GA : FnOk P w K mg base CX0 1 fA fdA ["sizes"] (spArr K)) (gA : mg "_arrangements" = some (.ref fA)) (kA : PySem.W.keepIn K (.ref fA) = true) (bA : Binds K fdA ["sizes"] [])
    (GM : FnOk P w K mg base (L2.CX P w) 3 fM fdM ["number", "least"] (spCkN CN)) (gM : mg "check_number" = some (.ref fM)) (kM : PySem.W.keepIn K (.ref fM) = true) (bM : Binds K fdM ["number", "least"] []) :
    FnOk P w K mg base (L2.CX P w) 14 f fd ["counts", "m"] (spN2 CC CN) := by
  refine F.okX scLists (fun vs H Q E h => ?_) (fun cdv A outer s H vs Q E hr h => ?_)
  · obtain ⟨x, y, rfl, _⟩ := h
    rfl
  · obtain ⟨x, y, rfl, h⟩ := h
    have nd := scLists.nd
    have hr1 : Room 1 _ := hr.mono (by decide)
    have hr3 : Room 3 _ := hr.mono (by decide)
    have hr4 : Room 4 _ := hr.mono (by decide)
    have hr12 : Room 12 _ := hr.mono (by decide)
    refine ⟨_, (pss_cons (ps_expr (pe_call GK hr4 rfl gK kK bK .nil (passes_call (takes_of rfl rfl rfl rfl) fun _ _ _ _ h => h) (pa_cons (pv 0) pa_nil))) (pss_cons (ps_expr (pe_call GM hr3 rfl gM kM bM .nil (passes_call (takes_of rfl rfl rfl rfl) fun _ _ _ _ h => h) (pa_cons (pv 1) (pa_cons pe_int pa_nil)))) (pss_cons (ps_set (i := 2) nd rfl (Or.inl rfl) (pe_callTy (cr_listV rfl) (by rfl) T.list (by decide +kernel) (pa_cons (pe_bm0 PySem.F.plainAttrs_dict PySem.F.slot_dict_values PySem.F.type_dict_values mt_values (pv 0)) pa_nil)))
      (pss_cons (ps_set (i := 3) nd rfl (Or.inl rfl) (pe_callB (cr_sum rfl) (by rfl) T.sum (by decide +kernel) (pa_cons (pv 2) pa_nil)))
      (pss_cons (ps_if (pt_cmpR op_eq (pv 1) pe_int (nomark _)) (pss_one (ps_ret (pe_ifExp (pt_cmpR op_eq (pv 3) pe_int (nomark _)) pe_int pe_int))) pss_nil)
      (pss_one (ps_ret (pe_op op_mulW (pe_call GA hr1 rfl gA kA bA .nil pass0 (pa_cons (pv 2) pa_nil)) (pe_callBfun cr_comb (by rfl) T.comb (pa_cons (pe_op op_sub (pe_op op_add (pv 3) (pv 1)) pe_int) (pa_cons (pe_op op_sub (pv 1) pe_int) pa_nil))))))))))), ?_⟩
    rcases h with ⟨hb, e⟩ | ⟨a, kvs, ns, hg, k⟩
    · exact ⟨_, rfl, x, false, rfl, hb, fun H1 s1 => ⟨fun z => (by cases z), fun _ d hd => e H1 d s1 hd⟩⟩
    · refine ⟨_, rfl, x, true, rfl, hg.is, fun H1 s1 => ⟨fun _ => ?_, fun z => (by cases z)⟩⟩
      obtain ⟨rfl, ha, _, hv, hz, hf⟩ := hg
      have ha1 := s1 _ _ ha
      rcases k with ⟨rfl, k⟩ | ⟨hp, hb, e⟩
      rotate_left
      · exact ⟨_, rfl, y, 0, rfl, hp.keep s1, fun z => (by rw [hb] at z; cases z), fun _ d hd => e H1 d s1 hd⟩
      refine ⟨_, rfl, _, 0, rfl, .int 0, fun _ => ?_, fun z => (by cases z)⟩
      refine ⟨_, rfl, .inr (.inr (.inl ⟨rfl, .inl ⟨_, ha1⟩⟩)), a, kvs, rfl, rfl, ha1, fun r0 z0 => ?_⟩
      obtain ⟨H2, e2, S2, A2⟩ := alloc (o := vwO r0 a) z0
      rw [e2]
      refine ⟨r0, a, kvs, rfl, A2, S2 _ _ ha1, fun r1 z1 => ?_⟩
      rw [hv]
      obtain ⟨H3, e3, S3, A3⟩ := alloc (o := .lst (ns.map V.int)) z1
      rw [e3]
      have sA : Same H H3 := (s1.trans S2).trans S3
      refine ⟨_, rfl, r1, ns, rfl, .of A3, _, rfl, rfl, _, rfl, _, rfl, rfl, _, rfl, ?_⟩
      by_cases hd : (decide (V.int ns.sum = V.int 0)) = true
      · rw [hd]
        exact k _ _ sA
      · rw [Bool.not_eq_true] at hd
        rw [hd]
        exact k _ _ sA
end
end T08

set_option Elab.async false
set_option linter.all false
set_option maxRecDepth 100000
set_option maxHeartbeats 4000000
namespace T08
open PySem L2 EK LamX
abbrev sAsk : Stmt := top 29
abbrev sSaid : Stmt := top 30
abbrev sLaw : Stmt := top 31
def spAsk (CC CN : Addr) : Sp := fun vs H Q E => ∃ (j : Int) (x y : V), vs = [.int j, x, y] ∧ 0 ≤ j ∧ j < 5 ∧ (badC CC H x E ∨ ∃ a kvs ns, GoodC H x a kvs ns ∧ ((y = .int 0 ∧ ∀ H' v, Same H H' → Q (.int v) H') ∨ (3 ≤ j ∧ Pl H y ∧ numB y 0 = false ∧ ∀ H' d, Same H H' → H' d = none → E (.ref CN) (some d) (upd H' d (.xd [("number", y)])))))
section
variable {P : Program} {w : World} {K : PySem.W.Frag} {mg : Str → Option Value} {base : Heap} {CC CN : Addr}
theorem scAsk : FnScope ["_law_way", "_law_counts", "_law_m"] ["_law_way", "_law_counts", "_law_m"] (defScope sAsk) := ⟨rfl, rfl, rfl, by decide +kernel, rfl, by decide +kernel, by decide +kernel⟩
theorem scSaid : FnScope ["_law_ask_here", "e"] ["_law_ask_here"] (defScope sSaid) := ⟨rfl, rfl, rfl, by decide +kernel, rfl, by decide +kernel, by decide +kernel⟩
theorem ok_ask {f f1 f2 f3 f4 f5 : Addr} {fd fd1 fd2 fd3 fd4 fd5 : FuncData} (F : Fun K "_law_ask" "_law_ask" sAsk f fd)
    (G1 : FnOk P w K mg base (L2.CX P w) 14 f1 fd1 ["counts"] (spN1 CC)) (g1 : mg "texts_number" = some (.ref f1)) (k1 : PySem.W.keepIn K (.ref f1) = true) (b1 : Binds K fd1 ["counts"] [])
    (G2 : FnOk P w K mg base (L2.CX P w) 14 f2 fd2 ["counts"] (spN1 CC)) (g2 : mg "rings_number" = some (.ref f2)) (k2 : PySem.W.keepIn K (.ref f2) = true) (b2 : Binds K fd2 ["counts"] [])
    (G3 : FnOk P w K mg base (L2.CX P w) 14 f3 fd3 ["counts"] (spN1 CC)) (g3 : mg "turns_number" = some (.ref f3)) (k3 : PySem.W.keepIn K (.ref f3) = true) (b3 : Binds K fd3 ["counts"] [])
    (G4 : FnOk P w K mg base (L2.CX P w) 14 f4 fd4 ["counts", "m"] (spN2 CC CN)) (g4 : mg "lists_number" = some (.ref f4)) (k4 : PySem.W.keepIn K (.ref f4) = true) (b4 : Binds K fd4 ["counts", "m"] [])
    (G5 : FnOk P w K mg base (L2.CX P w) 14 f5 fd5 ["counts", "m"] (spN2 CC CN)) (g5 : mg "rows_number" = some (.ref f5)) (k5 : PySem.W.keepIn K (.ref f5) = true) (b5 : Binds K fd5 ["counts", "m"] []) :
    FnOk P w K mg base (L2.CX P w) 15 f fd ["_law_way", "_law_counts", "_law_m"] (spAsk CC CN) := by
  refine F.okX scAsk (fun vs H Q E h => ?_) (fun cdv A outer s H vs Q E hr h => ?_)
  · obtain ⟨j, x, y, rfl, _⟩ := h
    rfl
  · obtain ⟨j, x, y, rfl, j0, j5, h⟩ := h
    have nd := scAsk.nd
    have hrX : Room 14 _ := hr
    refine ⟨_, (pss_cons (ps_if (pt_cmpR op_eq (pv 0) pe_int (nomark _)) (pss_one (ps_ret (pe_call G1 hrX rfl g1 k1 b1 .nil (passes_call (takes_of rfl rfl rfl rfl) fun _ _ _ _ h => h) (pa_cons (pv 1) pa_nil)))) pss_nil)
      (pss_cons (ps_if (pt_cmpR op_eq (pv 0) pe_int (nomark _)) (pss_one (ps_ret (pe_call G2 hrX rfl g2 k2 b2 .nil (passes_call (takes_of rfl rfl rfl rfl) fun _ _ _ _ h => h) (pa_cons (pv 1) pa_nil)))) pss_nil)
      (pss_cons (ps_if (pt_cmpR op_eq (pv 0) pe_int (nomark _)) (pss_one (ps_ret (pe_call G3 hrX rfl g3 k3 b3 .nil (passes_call (takes_of rfl rfl rfl rfl) fun _ _ _ _ h => h) (pa_cons (pv 1) pa_nil)))) pss_nil)
      (pss_one (ps_ret (pe_ifExp (pt_cmpR op_eq (pv 0) pe_int (nomark _)) (pe_call G4 hrX rfl g4 k4 b4 .nil (passes_call (takes_of rfl rfl rfl rfl) fun _ _ _ _ h => h) (pa_cons (pv 1) (pa_cons (pv 2) pa_nil))) (pe_call G5 hrX rfl g5 k5 b5 .nil (passes_call (takes_of rfl rfl rfl rfl) fun _ _ _ _ h => h) (pa_cons (pv 1) (pa_cons (pv 2) pa_nil))))))))), ?_⟩
    have one : (¬ 3 ≤ j) → (badC CC H x E ∨ ∃ a kvs ns, GoodC H x a kvs ns ∧ ∀ H' v, Same H H' → Q (.int v) H') := fun n => by
      rcases h with h | ⟨a, kvs, ns, hg, ⟨_, k⟩ | ⟨n3, _⟩⟩
      · exact .inl h
      · exact .inr ⟨a, kvs, ns, hg, k⟩
      · exact absurd n3 n
    have two : (badC CC H x E ∨ ∃ a kvs ns, GoodC H x a kvs ns ∧ ((y = .int 0 ∧ ∀ H' v, Same H H' → Q (.int v) H') ∨ (Pl H y ∧ numB y 0 = false ∧ ∀ H' d, Same H H' → H' d = none → E (.ref CN) (some d) (upd H' d (.xd [("number", y)]))))) := by
      rcases h with h | ⟨a, kvs, ns, hg, k | ⟨_, k⟩⟩
      · exact .inl h
      · exact .inr ⟨a, kvs, ns, hg, .inl k⟩
      · exact .inr ⟨a, kvs, ns, hg, .inr k⟩
    obtain rfl | rfl | rfl | rfl | rfl : j = 0 ∨ j = 1 ∨ j = 2 ∨ j = 3 ∨ j = 4 := by omega
    · exact ⟨_, rfl, rfl, _, rfl, _, rfl, x, rfl, one (by decide)⟩
    · exact ⟨_, rfl, rfl, _, rfl, _, rfl, rfl, _, rfl, _, rfl, x, rfl, one (by decide)⟩
    · exact ⟨_, rfl, rfl, _, rfl, _, rfl, rfl, _, rfl, _, rfl, rfl, _, rfl, _, rfl, x, rfl, one (by decide)⟩
    · exact ⟨_, rfl, rfl, _, rfl, _, rfl, rfl, _, rfl, _, rfl, rfl, _, rfl, _, rfl, rfl, _, rfl, _, rfl, _, rfl, x, y, rfl, two⟩
    · exact ⟨_, rfl, rfl, _, rfl, _, rfl, rfl, _, rfl, _, rfl, rfl, _, rfl, _, rfl, rfl, _, rfl, _, rfl, _, rfl, x, y, rfl, two⟩
end
end T08

set_option Elab.async false
set_option linter.all false
set_option maxRecDepth 100000
set_option maxHeartbeats 4000000
namespace T08
open PySem L2 EK LamX
theorem cut_ints (ns : List Int) (lo hi : Option Int) : ∃ ms : List Int, cutV (ns.map V.int) lo hi = ms.map V.int ∧ ms.length ≤ ns.length := by
  have h := cutV_length (ns.map V.int) lo hi
  have e : ∃ ms : List Int, cutV (ns.map V.int) lo hi = ms.map V.int := by
    unfold cutV
    rw [← List.map_drop, ← List.map_take]
    exact ⟨_, rfl⟩
  obtain ⟨ms, e⟩ := e
  rw [e, List.length_map, List.length_map] at h
  exact ⟨ms, e, h⟩
abbrev lawQ : Str := ("law" : Str) ++ ".<locals>." ++ "<lambda>"
theorem Pl.keepN {H H' : Hp} {x : V} (h : Pl H x) (s : ExtN H H') : Pl H' x := by
  cases h with
  | non => exact .non
  | int i => exact .int i
  | str z => exact .str z
  | bl b => exact .bl b
  | tup e => exact .tup (s _ _ e fun _ z => by cases z)
  | lst e => exact .lst (s _ _ e fun _ z => by cases z)
  | dct e => exact .dct (s _ _ e fun _ z => by cases z)
theorem IsC.map {H H' : Hp} {x : V} {b : Bool} (h : IsC H x b) (hp : ∀ y, Pl H y → Pl H' y) (hd : ∀ a kvs, H a = some (.dK kvs) → H' a = some (.dK kvs)) (hn : ∀ a, Pl H (.ref a) → (∀ kvs, H a ≠ some (.dK kvs)) → ∀ kvs, H' a ≠ some (.dK kvs)) : IsC H' x b := by
  cases h with
  | no p n => exact .no (hp _ p) fun a e => by subst e; exact hn a p (n a rfl)
  | dct e p l => exact .dct (hd _ _ e) (fun q hq => ⟨hp _ (p q hq).1, (p q hq).2⟩) l
theorem IsC.keepN {H H' : Hp} {x : V} {b : Bool} (h : IsC H x b) (s : ExtN H H') : IsC H' x b := by
  refine h.map (fun y p => p.keepN s) (fun a kvs e => s _ _ e fun _ z => by cases z) fun a p n kvs z => ?_
  cases p with
  | tup e => rw [s _ _ e fun _ z => by cases z] at z; cases z
  | lst e => rw [s _ _ e fun _ z => by cases z] at z; cases z
  | dct e => exact n _ e
theorem WellAt.keepN {H H' : Hp} {a : Addr} {n : Int} (h : WellAt H a n) (s : ExtN H H') : WellAt H' a n := by
  obtain ⟨w0, w1, w2, e, r⟩ := h
  exact ⟨w0, w1, w2, s _ _ e (fun _ z => by cases z), r⟩
theorem Pl.keepW {H H' : Hp} {wl : Addr} {n n' : Int} {x : V} (h : Pl H x) (w : WellAt H wl n) (w' : WellAt H' wl n') (s : KeepB wl H H') : Pl H' x := by
  obtain ⟨_, _, _, ew, _⟩ := w
  obtain ⟨_, _, _, ew', _⟩ := w'
  cases h with
  | non => exact .non
  | int i => exact .int i
  | str z => exact .str z
  | bl b => exact .bl b
  | @tup a xs e => exact .tup (s _ _ e fun z => by rw [z, ew] at e; cases e)
  | @lst a xs e =>
    by_cases z : a = wl
    · rw [z]
      exact .lst ew'
    · exact .lst (s _ _ e z)
  | @dct a kvs e => exact .dct (s _ _ e fun z => by rw [z, ew] at e; cases e)
theorem IsC.keepW {H H' : Hp} {wl : Addr} {n n' : Int} {x : V} {b : Bool} (h : IsC H x b) (w : WellAt H wl n) (w' : WellAt H' wl n') (s : KeepB wl H H') : IsC H' x b := by
  obtain ⟨_, _, _, ew, _⟩ := id w
  obtain ⟨_, _, _, ew', _⟩ := id w'
  refine h.map (fun y p => p.keepW w w' s) (fun a kvs e => s _ _ e fun z => by rw [z, ew] at e; cases e) fun a p n kvs z => ?_
  cases p with
  | tup e => rw [s _ _ e fun z => by rw [z, ew] at e; cases e] at z; cases z
  | lst e =>
    by_cases y : a = wl
    · rw [y, ew'] at z
      cases z
    · rw [s _ _ e y] at z
      cases z
  | dct e => exact n _ e
theorem GoodC.keepN {H H' : Hp} {x : V} {a : Addr} {kvs : List (Key × V)} {ns : List Int} (h : GoodC H x a kvs ns) (s : ExtN H H') : GoodC H' x a kvs ns := ⟨h.eq, s _ _ h.at_ (fun _ z => by cases z), h.is.keepN s, h.vals, h.sz, h.few⟩
theorem alloc_d {H : Hp} {p : Addr} {kvs : List (Key × V)} (hp : H p = none) : ∃ H1, upd (upd H p (.dK [])) p (.dK kvs) = H1 ∧ Same H H1 ∧ H1 p = some (.dK kvs) :=
  ⟨_, rfl, fun b u e => by rw [upd_ne (ne_of_none e hp), upd_ne (ne_of_none e hp)]; exact e, upd_same⟩
theorem ni {x : V} {H : Hp} (p : Pl H x) (n : ∀ a, x ≠ .ref a) : IsC H x false := .no p fun a e => absurd e (n a)
theorem nl {H : Hp} {a : Addr} {xs : List V} (e : H a = some (.lst xs)) : IsC H (.ref a) false := .no (.lst e) fun b z kvs q => by injection z with z; rw [← z, e] at q; cases q
theorem nt {H : Hp} {a : Addr} {xs : List V} (e : H a = some (.tup xs)) : IsC H (.ref a) false := .no (.tup e) fun b z kvs q => by injection z with z; rw [← z, e] at q; cases q
theorem nd1 {H : Hp} {a : Addr} {k : Key} {v : V} (e : H a = some (.dK [(k, v)])) (p : Pl H v) (n : v ≠ .ref a) (l : ∀ z, k = .inr z → z.cps.size ≤ 1000) (hb : icB [(k, v)] = false) : IsC H (.ref a) false := by
  rw [← hb]
  exact .dct e (fun q hq => by rw [List.mem_singleton.mp hq]; exact ⟨p, n⟩) fun q hq => by rw [List.mem_singleton.mp hq]; exact l
theorem nd2 {H : Hp} {a : Addr} {k k2 : Key} {v v2 : V} (e : H a = some (.dK [(k, v), (k2, v2)])) (p : Pl H v) (n : v ≠ .ref a) (l : ∀ z, k = .inr z → z.cps.size ≤ 1000) (p2 : Pl H v2) (n2 : v2 ≠ .ref a) (l2 : ∀ z, k2 = .inr z → z.cps.size ≤ 1000) (hb : icB [(k, v), (k2, v2)] = false) : IsC H (.ref a) false := by
  rw [← hb]
  refine .dct e (fun q hq => ?_) fun q hq => ?_
  · rcases List.mem_cons.mp hq with rfl | hq
    · exact ⟨p, n⟩
    · rw [List.mem_singleton.mp hq]
      exact ⟨p2, n2⟩
  · rcases List.mem_cons.mp hq with rfl | hq
    · exact l
    · rw [List.mem_singleton.mp hq]
      exact l2
theorem alloc_o {H Hb : Hp} {p : Addr} {o : HO} (hp : H p = none) (s : Same H Hb) : ∃ H1, upd Hb p o = H1 ∧ Same H H1 ∧ H1 p = some o ∧ ∀ b u, Hb b = some u → b ≠ p → H1 b = some u :=
  ⟨_, rfl, fun b u e => by rw [upd_ne (ne_of_none e hp)]; exact s _ _ e, upd_same, fun b u e n => by rw [upd_ne n]; exact e⟩
theorem _root_.LamX.Tabs.keepW {T : List (Addr × Str)} {H H' : Hp} {wl : Addr} {n : Int} (t : Tabs T H) (w : WellAt H wl n) (s : KeepB wl H H') : Tabs T H' := fun p hp => by
  obtain ⟨w0, w1, w2, ew, _⟩ := w
  obtain ⟨ps, h1, h2, h3⟩ := t p hp
  refine ⟨ps, s _ _ h1 (fun z => by rw [z, ew] at h1; cases h1), h2, fun pos cv hc => ?_⟩
  obtain ⟨c, e1, e2⟩ := h3 pos cv hc
  refine ⟨c, e1, s _ _ e2 fun z => ?_⟩
  rw [z, ew] at e2
  unfold CodeO at e2
  cases e2
theorem icB_bad {kvs : List (Key × V)} {q : Key × V} (hq : q ∈ kvs) (hb : entOk q = false) : icB kvs = false := by
  unfold icB
  have : kvs.all entOk = false := List.all_eq_false.mpr ⟨q, hq, by rw [hb]; simp⟩
  rw [this]
  rfl
theorem IsC.nf {H : Hp} {x : V} {b : Bool} (h : IsC H x b) : ∀ c, x ≠ .flt c := fun c e => by
  subst e
  cases h with
  | no p n => cases p
theorem Pl.nf {H : Hp} {x : V} (h : Pl H x) : ∀ c, x ≠ .flt c := fun c e => by
  subst e
  cases h
theorem same_pair {K : PySem.W.Frag} {H : Hp} {m : Str} {x : V} (nf : ∀ c, x ≠ .flt c) : ∀ (i : Nat) u v, [V.str m, x][i]? = some u → [V.str m, x][i]? = some v → Sm K H 60 u v := fun i u v h1 h2 => by
  obtain rfl : u = v := Option.some.inj (h1.symm.trans h2)
  refine .rf u fun b z => ?_
  have hm := List.mem_of_getElem? h1
  rcases List.mem_cons.mp hm with e | hm
  · rw [e] at z
    cases z
  · rw [List.mem_singleton.mp hm] at z
    exact nf b z
def spLaw (K : PySem.W.Frag) (PT : Addr) : Sp := fun vs H Q _ => ∃ (a : Addr) (ns : List Int), vs = [.ref a] ∧ SqL K H a (ns.map V.int) ∧ ns.length ≤ 63 ∧ H PT = some (.tbl #[]) ∧ ∀ H', Q (.bl true) H'
section
variable {P : Program} {w : World} {K : PySem.W.Frag} {mg : Str → Option Value} {base : Heap} {CC CN iC iN : Addr}
theorem scLaw : FnScope ["_law_script", "_law_cell", "_law_well_here", "_law_odd", "_law_counts", "_law_number", "_law_thing", "_law_way"] ["_law_script"] (defScope sLaw) := ⟨rfl, rfl, rfl, by decide +kernel, rfl, by decide +kernel, by decide +kernel⟩
theorem ok_law {f cL PT : Addr} {dV kV doc pm ct oc : Value} {an od : Option Addr} {osl : Array (Option Value)} (lk : K.lookup f = some ⟨oc, od, .func (PySem.W.fnOf "law" "law" (defArgs sLaw) (defBody sLaw) (defScope sLaw) dV kV doc pm an (.ref cL) ct), osl⟩) (hcd : PySem.W.codeIn K (.ref cL) "law" = true) (TB : TabB base mg cL PT)
    {fW fO fD fAsk fQ : Addr} {fdW fdO fdD fdAsk : FuncData} {cdQ dVQ kVQ docQ pmQ ctQ ocQ : Value} {anQ odQ : Option Addr} {oslQ : Array (Option Value)}
    (TX : TxtN K mg) (TC : ErrTxt P K mg "NoCounts" "counts" CC iC) (TN : ErrTxt P K mg "NoNumber" "number" CN iN)
    (e11 : PySem.W.exmOne K (.ref CC) (.ref CC) = some true) (e21 : PySem.W.exmOne K (.ref CN) (.ref CC) = some false) (e22 : PySem.W.exmOne K (.ref CN) (.ref CN) = some true)
    (GW : FnOk P w K mg base CX0 1 fW fdW ["_law_cell"] spWell) (gW : mg "_law_well" = some (.ref fW)) (kW : PySem.W.keepIn K (.ref fW) = true) (bW : Binds K fdW ["_law_cell"] [])
    (GO : FnOk P w K mg base CX0 2 fO fdO ["_law_well_here", "_law_some"] spOne) (gO : mg "_law_one" = some (.ref fO)) (kO : PySem.W.keepIn K (.ref fO) = true) (bO : Binds K fdO ["_law_well_here", "_law_some"] [])
    (GD : FnOk P w K mg base CX0 1 fD fdD ["_law_well_here", "_law_many"] spDraw) (gD : mg "_law_draw" = some (.ref fD)) (kD : PySem.W.keepIn K (.ref fD) = true) (bD : Binds K fdD ["_law_well_here", "_law_many"] [])
    (GAsk : FnOk P w K mg base (L2.CX P w) 15 fAsk fdAsk ["_law_way", "_law_counts", "_law_m"] (spAsk CC CN)) (gAsk : mg "_law_ask" = some (.ref fAsk)) (kAsk : PySem.W.keepIn K (.ref fAsk) = true) (bAsk : Binds K fdAsk ["_law_way", "_law_counts", "_law_m"] [])
    (lkQ : K.lookup fQ = some ⟨ocQ, odQ, .func (PySem.W.fnOf "_law_said" "_law_said" (defArgs sSaid) (defBody sSaid) (defScope sSaid) dVQ kVQ docQ pmQ anQ cdQ ctQ), oslQ⟩) (gQ : mg "_law_said" = some (.ref fQ)) (kQ : PySem.W.keepIn K (.ref fQ) = true) (cQ : PySem.W.codeIn K cdQ "_law_said" = true)
    (bQ : Binds K (PySem.W.fnOf "_law_said" "_law_said" (defArgs sSaid) (defBody sSaid) (defScope sSaid) dVQ kVQ docQ pmQ anQ cdQ ctQ) ["_law_ask_here"] []) :
    FnOk P w K mg base CX0 18 f (PySem.W.fnOf "law" "law" (defArgs sLaw) (defBody sLaw) (defScope sLaw) dV kV doc pm an (.ref cL) ct) ["_law_script"] (spLaw K PT) := by
  refine fn_of lk hcd scLaw (fun vs H Q E h => ?_) (fun A outer s H vs Q E hr h => ?_)
  · obtain ⟨a, ns, rfl, _⟩ := h
    rfl
  · obtain ⟨a, ns, rfl, hS, hlen, hPT, k⟩ := h
    have nd := scLaw.nd
    have hu : (A.deeper (PyProof.Rows.envOfC "law" (defScope sLaw) s.heap.objs.size f (.ref cL))).units + 64 < cLine := hr.units
    have hr1 : Room 1 _ := hr.mono (by decide)
    have hr2 : Room 2 _ := hr.mono (by decide)
    have hr17 : Room 17 _ := hr
    refine ⟨_, PSs.nox ((pss_cons (ps_for PassesOwn.never rfl (pi_list (pe_op op_cat (pe_slice sl_list (pv 0) po_none (po_some pe_int)) (pe_lst (pa_cons pe_int pa_nil)))) (pg_name (i := 1) nd rfl (Or.inl rfl)) (pss_cons (ps_set (i := 2) nd rfl (Or.inl rfl) (pe_call GW hr1 rfl gW kW bW .nil pass0 (pa_cons (pv 1) pa_nil)))
      (pss_cons (ps_set (i := 3) nd rfl (Or.inl rfl) (pe_lst (pa_cons pe_non (pa_cons pe_int (pa_cons pe_str (pa_cons (pe_lst (pa_cons pe_str pa_nil)) (pa_cons (pe_tup (pa_cons pe_str (pa_cons pe_int pa_nil))) (pa_cons (pe_disp (pps_cons pe_str (pe_un un_neg pe_int) pps_nil) (by rfl) (by rfl) (fun z => by cases z) (by decide)) (pa_cons (pe_disp (pps_cons pe_str (pe_cmpR op_eq pe_int pe_int (nomark _)) pps_nil) (by rfl) (by rfl) (fun z => by cases z) (by decide)) (pa_cons (pe_disp (pps_cons pe_str pe_str pps_nil) (by rfl) (by rfl) (fun z => by cases z) (by decide)) (pa_cons (pe_disp (pps_cons pe_str pe_int pps_nil) (by rfl) (by rfl) (fun z => by cases z) (by decide)) (pa_cons (pe_disp (pps_cons pe_str pe_int pps_nil) (by rfl) (by rfl) (fun z => by cases z) (by decide)) (pa_cons (pe_disp (pps_cons pe_str pe_int pps_nil) (by rfl) (by rfl) (fun z => by cases z) (by decide)) pa_nil)))))))))))))
      (pss_cons (ps_set (i := 3) nd rfl (Or.inl rfl) (pe_op op_cat (pv 3) (pe_lst (pa_cons (pe_disp (pps_cons pe_int pe_int pps_nil) (by rfl) (by rfl) (fun z => by cases z) (by decide)) (pa_cons (pe_disp (pps_cons pe_str pe_int pps_nil) (by rfl) (by rfl) (fun z => by cases z) (by decide)) (pa_cons (pe_disp (pps_cons pe_str pe_non pps_nil) (by rfl) (by rfl) (fun z => by cases z) (by decide)) (pa_cons (pe_disp (pps_cons pe_str pe_int pps_nil) (by rfl) (by rfl) (fun z => by cases z) (by decide)) (pa_cons (pe_disp (pps_cons pe_str pe_int (pps_cons pe_str pe_int pps_nil)) (by rfl) (by rfl) (fun z => by cases z) (by decide)) (pa_cons (pe_disp (pps_cons pe_str pe_int (pps_cons pe_str (pe_lst (pa_cons pe_int pa_nil)) pps_nil)) (by rfl) (by rfl) (fun z => by cases z) (by decide)) (pa_cons (pe_disp (pps_cons pe_str (pe_lst (pa_cons pe_int pa_nil)) pps_nil) (by rfl) (by rfl) (fun z => by cases z) (by decide)) pa_nil))))))))))
      (pss_cons (ps_asg (pe_tup (pa_cons (pe_call GO hr2 rfl gO kO bO .nil pass0 (pa_cons (pv 2) (pa_cons (pv 3) pa_nil))) (pa_cons (pe_call GO hr2 rfl gO kO bO .nil pass0 (pa_cons (pv 2) (pa_cons (pe_lst (pa_cons (pe_un un_neg pe_int) (pa_cons pe_non (pa_cons (pe_cmpR op_eq pe_int pe_int (nomark _)) (pa_cons pe_str (pa_cons (pe_lst pa_nil) (pa_cons (pe_tup pa_nil) (pa_cons (pe_un un_neg pe_int) (pa_cons pe_dnewK pa_nil))))))))) pa_nil))) pa_nil))) (pg_tup rfl (pgs_cons (pg_name (i := 6) nd rfl (Or.inr rfl)) (pgs_cons (pg_name (i := 5) nd rfl (Or.inr rfl)) pgs_nil))))
      (pss_cons (ps_for PassesOwn.never rfl (pi_range1 (by rfl) TX.range (pa_cons pe_int pa_nil)) (pg_name (i := 7) nd rfl (Or.inr rfl)) (pss_one (ps_if (pt_cmpR (op_neS hu) (pe_lamcall (T := [(PT, lawQ)]) (TT := TSaid K CC CN "counts" "number" "counts" "number") (k := 15) rfl gQ kQ lkQ cQ bQ scSaid rfl (Or.inl rfl) (said_gives (n1 := "e") scSaid.nd rfl rfl rfl rfl TC.gC (by decide) rfl TN.gC (by decide) TC.xf TN.xf TC.noN TN.noN (by decide) (by decide) rfl (fun _ => rfl) (fun _ => rfl)) TB rfl (List.mem_singleton.mpr rfl) (fun p hp _ => by rw [List.mem_singleton.mp hp]; rfl) hr17 (lamS_by (sc := defScope sLaw) (by decide +kernel)) rfl (fun _ _ _ _ _ => rfl) (fun A outer s H E f c' hr' => pe_call GAsk hr' rfl gAsk kAsk bAsk .nil (passes_call (takes_of rfl rfl rfl rfl) fun _ _ _ _ h => h) (pa_cons (pv 7) (pa_cons (pv 6) (pa_cons (pv 5) pa_nil))))) (pe_tup (pa_cons pe_str (pa_cons (pv 6) pa_nil))) (nomark _)) (pss_one (ps_ret pe_bl)) pss_nil)))
      (pss_cons (ps_set (i := 4) nd rfl (Or.inr rfl) (pe_disp (pps_cons pe_str (pe_call GD hr1 rfl gD kD bD .nil pass0 (pa_cons (pv 2) (pa_cons pe_int pa_nil))) (pps_cons pe_str (pe_call GD hr1 rfl gD kD bD .nil pass0 (pa_cons (pv 2) (pa_cons pe_int pa_nil))) (pps_cons pe_str (pe_call GD hr1 rfl gD kD bD .nil pass0 (pa_cons (pv 2) (pa_cons pe_int pa_nil))) pps_nil))) (by rfl) (by rfl) (fun z => by cases z) (by decide)))
      (pss_cons (ps_for PassesOwn.never rfl (pi_range2 (by rfl) TX.range (pa_cons pe_int (pa_cons pe_int pa_nil))) (pg_name (i := 7) nd rfl (Or.inr rfl)) (pss_one (ps_if (pt_cmpR (op_neS hu) (pe_lamcall (T := [(PT, lawQ)]) (TT := TSaid K CC CN "counts" "number" "counts" "number") (k := 15) rfl gQ kQ lkQ cQ bQ scSaid rfl (Or.inl rfl) (said_gives (n1 := "e") scSaid.nd rfl rfl rfl rfl TC.gC (by decide) rfl TN.gC (by decide) TC.xf TN.xf TC.noN TN.noN (by decide) (by decide) rfl (fun _ => rfl) (fun _ => rfl)) TB rfl (List.mem_singleton.mpr rfl) (fun p hp _ => by rw [List.mem_singleton.mp hp]; rfl) hr17 (lamS_by (sc := defScope sLaw) (by decide +kernel)) rfl (fun _ _ _ _ _ => rfl) (fun A outer s H E f c' hr' => pe_call GAsk hr' rfl gAsk kAsk bAsk .nil (passes_call (takes_of rfl rfl rfl rfl) fun _ _ _ _ h => h) (pa_cons (pv 7) (pa_cons (pv 4) (pa_cons (pv 5) pa_nil))))) (pe_tup (pa_cons pe_str (pa_cons (pv 5) pa_nil))) (nomark _)) (pss_one (ps_ret pe_bl)) pss_nil)))
      (pss_one (ps_for PassesOwn.never rfl (pi_range1 (by rfl) TX.range (pa_cons pe_int pa_nil)) (pg_name (i := 7) nd rfl (Or.inr rfl)) (pss_one (ps_if (pt_cmpR op_ne (pe_ix ix_tup (pe_lamcall (T := [(PT, lawQ)]) (TT := TSaid K CC CN "counts" "number" "counts" "number") (k := 15) rfl gQ kQ lkQ cQ bQ scSaid rfl (Or.inl rfl) (said_gives (n1 := "e") scSaid.nd rfl rfl rfl rfl TC.gC (by decide) rfl TN.gC (by decide) TC.xf TN.xf TC.noN TN.noN (by decide) (by decide) rfl (fun _ => rfl) (fun _ => rfl)) TB rfl (List.mem_singleton.mpr rfl) (fun p hp _ => by rw [List.mem_singleton.mp hp]; rfl) hr17 (lamS_by (sc := defScope sLaw) (by decide +kernel)) rfl (fun _ _ _ _ _ => rfl) (fun A outer s H E f c' hr' => pe_call GAsk hr' rfl gAsk kAsk bAsk .nil (passes_call (takes_of rfl rfl rfl rfl) fun _ _ _ _ h => h) (pa_cons (pv 7) (pa_cons (pv 4) (pa_cons pe_int pa_nil))))) pe_int (fun _ _ => rfl)) pe_str (nomark _)) (pss_one (ps_ret pe_bl)) pss_nil))))))))))))
      (pss_one (ps_ret pe_bl)))), ?_⟩
    obtain ⟨ms, hms, hml⟩ := cut_ints ns none (some 10)
    refine ⟨_, rfl, _, rfl, a, _, rfl, hS, fun p0 z0 => ?_⟩
    rw [hms]
    obtain ⟨H1, e1, S1, A1⟩ := alloc (o := .lst (ms.map V.int)) z0
    rw [e1]
    refine ⟨(by show 1 ≤ sizeLine; decide), fun p1 z1 => ?_⟩
    obtain ⟨H2, e2, S2, A2⟩ := alloc (o := .lst [.int 0]) z1
    rw [e2]
    refine ⟨p0, p1, _, _, rfl, rfl, S2 _ _ A1, A2, ?_, fun p2 z2 => ?_⟩
    · rw [List.length_map]
      exact Nat.le_trans (Nat.add_le_add_right (Nat.le_trans hml hlen) 1) (by show 64 ≤ sizeLine; decide)
    have em : ms.map V.int ++ [V.int 0] = (ms ++ [0]).map V.int := by rw [List.map_append]; rfl
    rw [em]
    obtain ⟨H3, e3, S3, A3⟩ := alloc (o := .lst ((ms ++ [0]).map V.int)) z2
    rw [e3]
    have hT3 : Tabs [(PT, lawQ)] H3 := fun p hp => by
      rw [List.mem_singleton.mp hp]
      exact TabS.nil (S3 _ _ (S2 _ _ (S1 _ _ hPT)))
    refine ⟨p2, rfl, ⟨_, .of A3⟩, for_list (K := K) (a := p2) (xs := (ms ++ [0]).map V.int) (fun i σ H' => ∃ v1 v2 v3 v4 v5 v6 v7 : Option V, σ = [some (.ref a), v1, v2, v3, v4, v5, v6, v7] ∧ ExtN H3 H' ∧ Tabs [(PT, lawQ)] H') ⟨none, none, none, none, none, none, none, rfl, .refl _, hT3⟩ (fun i σ H' _ ⟨_, _, _, _, _, _, _, _, s, _⟩ => .of (s _ _ A3 fun _ z => by cases z)) ?_ ?_⟩
    · rintro i y σ H4 hi ⟨v1, v2, v3, v4, v5, v6, v7, rfl, s4, T4⟩
      obtain ⟨z, _, rfl⟩ := ints_at hi
      refine ⟨_, rfl, z, rfl, fun wl H5 nwl hw s5 => ?_⟩
      refine ⟨(by show 1 ≤ sizeLine; decide), fun q1 y1 => ?_⟩
      obtain ⟨G1, g1, U1, B1⟩ := alloc (o := .lst [.str "a"]) y1
      rw [g1]
      refine ⟨(by show 2 ≤ sizeLine; decide), fun q2 y2 => ?_⟩
      obtain ⟨G2, g2, U2, B2⟩ := alloc (o := .tup [.str "a", .int 1]) y2
      rw [g2]
      intro q3 y3
      refine ⟨_, rfl, upd_same, [(.inr "a", .int (-1))], rfl, by decide, ?_⟩
      obtain ⟨G3, g3, U3, C3⟩ := alloc_d (kvs := mergeK [] [(.inr "a", .int (-1))]) y3
      rw [g3]
      have B3 : G3 q3 = some (.dK [(.inr "a", .int (-1))]) := C3
      intro q4 y4
      refine ⟨rfl, upd_same, [(.inr "a", .bl (decide (V.int 1 = V.int 1)))], rfl, by decide, ?_⟩
      obtain ⟨G4, g4, U4, C4⟩ := alloc_d (kvs := mergeK [] [(.inr "a", .bl (decide (V.int 1 = V.int 1)))]) y4
      rw [g4]
      have B4 : G4 q4 = some (.dK [(.inr "a", .bl (decide (V.int 1 = V.int 1)))]) := C4
      intro q5 y5
      refine ⟨upd_same, [(.inr "a", .str "1")], rfl, by decide, ?_⟩
      obtain ⟨G5, g5, U5, C5⟩ := alloc_d (kvs := mergeK [] [(.inr "a", .str "1")]) y5
      rw [g5]
      have B5 : G5 q5 = some (.dK [(.inr "a", .str "1")]) := C5
      intro q6 y6
      refine ⟨upd_same, [(.inr "A", .int 1)], rfl, by decide, ?_⟩
      obtain ⟨G6, g6, U6, C6⟩ := alloc_d (kvs := mergeK [] [(.inr "A", .int 1)]) y6
      rw [g6]
      have B6 : G6 q6 = some (.dK [(.inr "A", .int 1)]) := C6
      intro q7 y7
      refine ⟨upd_same, [(.inr "ab", .int 1)], rfl, by decide, ?_⟩
      obtain ⟨G7, g7, U7, C7⟩ := alloc_d (kvs := mergeK [] [(.inr "ab", .int 1)]) y7
      rw [g7]
      have B7 : G7 q7 = some (.dK [(.inr "ab", .int 1)]) := C7
      intro q8 y8
      refine ⟨upd_same, [(.inr "", .int 1)], rfl, by decide, ?_⟩
      obtain ⟨G8, g8, U8, C8⟩ := alloc_d (kvs := mergeK [] [(.inr "", .int 1)]) y8
      rw [g8]
      have B8 : G8 q8 = some (.dK [(.inr "", .int 1)]) := C8
      refine ⟨(by show 11 ≤ sizeLine; decide), fun q9 y9 => ?_⟩
      obtain ⟨G9, g9, U9, B9⟩ := alloc (o := .lst [.non, .int 5, .str "ab", .ref q1, .ref q2, .ref q3, .ref q4, .ref q5, .ref q6, .ref q7, .ref q8]) y9
      rw [g9]
      refine ⟨_, rfl, fun q10 y10 => ?_⟩
      refine ⟨upd_same, [(.inl 5, .int 1)], rfl, by decide, ?_⟩
      obtain ⟨G10, g10, U10, C10⟩ := alloc_d (kvs := mergeK [] [(.inl 5, .int 1)]) y10
      rw [g10]
      have B10 : G10 q10 = some (.dK [(.inl 5, .int 1)]) := C10
      intro q11 y11
      refine ⟨upd_same, [(.inr "$", .int 1)], rfl, by decide, ?_⟩
      obtain ⟨G11, g11, U11, C11⟩ := alloc_d (kvs := mergeK [] [(.inr "$", .int 1)]) y11
      rw [g11]
      have B11 : G11 q11 = some (.dK [(.inr "$", .int 1)]) := C11
      intro q12 y12
      refine ⟨upd_same, [(.inr "a", .non)], rfl, by decide, ?_⟩
      obtain ⟨G12, g12, U12, C12⟩ := alloc_d (kvs := mergeK [] [(.inr "a", .non)]) y12
      rw [g12]
      have B12 : G12 q12 = some (.dK [(.inr "a", .non)]) := C12
      intro q13 y13
      refine ⟨upd_same, [(.inr "a", .int 301)], rfl, by decide, ?_⟩
      obtain ⟨G13, g13, U13, C13⟩ := alloc_d (kvs := mergeK [] [(.inr "a", .int 301)]) y13
      rw [g13]
      have B13 : G13 q13 = some (.dK [(.inr "a", .int 301)]) := C13
      intro q14 y14
      refine ⟨upd_same, [(.inr "a", .int 150), (.inr "b", .int 151)], rfl, by decide, ?_⟩
      obtain ⟨G14, g14, U14, C14⟩ := alloc_d (kvs := mergeK [] [(.inr "a", .int 150), (.inr "b", .int 151)]) y14
      rw [g14]
      have B14 : G14 q14 = some (.dK [(.inr "a", .int 150), (.inr "b", .int 151)]) := C14
      intro q15 y15
      obtain ⟨Ga15, ga15, Ua15, Ba15⟩ := alloc (o := .dK []) y15
      rw [ga15]
      refine ⟨(by show 1 ≤ sizeLine; decide), fun l15 yl15 => ?_⟩
      obtain ⟨Gb15, gb15, Ub15, Bb15⟩ := alloc (o := .lst [.int 1]) yl15
      rw [gb15]
      refine ⟨Ub15 _ _ Ba15, [(.inr "a", .int 1), (.inr "b", .ref l15)], rfl, (by show 2 ≤ 15; decide), ?_⟩
      obtain ⟨G15, g15, U15, C15, O15⟩ := alloc_o (o := .dK (mergeK [] [(.inr "a", .int 1), (.inr "b", .ref l15)])) y15 (Ua15.trans Ub15)
      rw [g15]
      have B15 : G15 q15 = some (.dK [(.inr "a", .int 1), (.inr "b", .ref l15)]) := C15
      have lq15 : l15 ≠ q15 := fun z => by rw [z, Ba15] at yl15; cases yl15
      have D15 : G15 l15 = some (.lst [.int 1]) := O15 _ _ Bb15 lq15
      intro q16 y16
      obtain ⟨Ga16, ga16, Ua16, Ba16⟩ := alloc (o := .dK []) y16
      rw [ga16]
      refine ⟨(by show 1 ≤ sizeLine; decide), fun l16 yl16 => ?_⟩
      obtain ⟨Gb16, gb16, Ub16, Bb16⟩ := alloc (o := .lst [.int 0]) yl16
      rw [gb16]
      refine ⟨Ub16 _ _ Ba16, [(.inr "a", .ref l16)], rfl, (by show 1 ≤ 15; decide), ?_⟩
      obtain ⟨G16, g16, U16, C16, O16⟩ := alloc_o (o := .dK (mergeK [] [(.inr "a", .ref l16)])) y16 (Ua16.trans Ub16)
      rw [g16]
      have B16 : G16 q16 = some (.dK [(.inr "a", .ref l16)]) := C16
      have lq16 : l16 ≠ q16 := fun z => by rw [z, Ba16] at yl16; cases yl16
      have D16 : G16 l16 = some (.lst [.int 0]) := O16 _ _ Bb16 lq16
      refine ⟨(by show 7 ≤ sizeLine; decide), fun q17 y17 => ?_⟩
      obtain ⟨G17, g17, U17, B17⟩ := alloc (o := .lst [.ref q10, .ref q11, .ref q12, .ref q13, .ref q14, .ref q15, .ref q16]) y17
      rw [g17]
      refine ⟨q9, q17, _, _, rfl, rfl, (((((((U10.trans U11).trans U12).trans U13).trans U14).trans U15).trans U16).trans U17) _ _ B9, B17, (by show 18 ≤ sizeLine; decide), fun q18 y18 => ?_⟩
      obtain ⟨G18, g18, U18, C18⟩ := alloc (o := .lst ([.non, .int 5, .str "ab", .ref q1, .ref q2, .ref q3, .ref q4, .ref q5, .ref q6, .ref q7, .ref q8] ++ [.ref q10, .ref q11, .ref q12, .ref q13, .ref q14, .ref q15, .ref q16])) y18
      rw [g18]
      have B18 : G18 q18 = some (.lst [.non, .int 5, .str "ab", .ref q1, .ref q2, .ref q3, .ref q4, .ref q5, .ref q6, .ref q7, .ref q8, .ref q10, .ref q11, .ref q12, .ref q13, .ref q14, .ref q15, .ref q16]) := C18
      have things : ∀ x ∈ [.non, .int 5, .str "ab", .ref q1, .ref q2, .ref q3, .ref q4, .ref q5, .ref q6, .ref q7, .ref q8, .ref q10, .ref q11, .ref q12, .ref q13, .ref q14, .ref q15, .ref q16], IsC G18 x false := by
        intro x hx
        rcases List.mem_cons.mp hx with rfl | hx
        · exact ni (.non) fun a z => (by cases z)
        rcases List.mem_cons.mp hx with rfl | hx
        · exact ni (.int _) fun a z => (by cases z)
        rcases List.mem_cons.mp hx with rfl | hx
        · exact ni (.str _) fun a z => (by cases z)
        rcases List.mem_cons.mp hx with rfl | hx
        · exact nl (((((((((((((((((U2.trans U3).trans U4).trans U5).trans U6).trans U7).trans U8).trans U9).trans U10).trans U11).trans U12).trans U13).trans U14).trans U15).trans U16).trans U17).trans U18) _ _ B1)
        rcases List.mem_cons.mp hx with rfl | hx
        · exact nt ((((((((((((((((U3.trans U4).trans U5).trans U6).trans U7).trans U8).trans U9).trans U10).trans U11).trans U12).trans U13).trans U14).trans U15).trans U16).trans U17).trans U18) _ _ B2)
        rcases List.mem_cons.mp hx with rfl | hx
        · exact nd1 (((((((((((((((U4.trans U5).trans U6).trans U7).trans U8).trans U9).trans U10).trans U11).trans U12).trans U13).trans U14).trans U15).trans U16).trans U17).trans U18) _ _ B3) (.int _) (fun z => by cases z) (fun z e => by injection e with e; subst e; decide) (by decide +kernel)
        rcases List.mem_cons.mp hx with rfl | hx
        · exact nd1 ((((((((((((((U5.trans U6).trans U7).trans U8).trans U9).trans U10).trans U11).trans U12).trans U13).trans U14).trans U15).trans U16).trans U17).trans U18) _ _ B4) (.bl _) (fun z => by cases z) (fun z e => by injection e with e; subst e; decide) (by decide +kernel)
        rcases List.mem_cons.mp hx with rfl | hx
        · exact nd1 (((((((((((((U6.trans U7).trans U8).trans U9).trans U10).trans U11).trans U12).trans U13).trans U14).trans U15).trans U16).trans U17).trans U18) _ _ B5) (.str _) (fun z => by cases z) (fun z e => by injection e with e; subst e; decide) (by decide +kernel)
        rcases List.mem_cons.mp hx with rfl | hx
        · exact nd1 ((((((((((((U7.trans U8).trans U9).trans U10).trans U11).trans U12).trans U13).trans U14).trans U15).trans U16).trans U17).trans U18) _ _ B6) (.int _) (fun z => by cases z) (fun z e => by injection e with e; subst e; decide) (by decide +kernel)
        rcases List.mem_cons.mp hx with rfl | hx
        · exact nd1 (((((((((((U8.trans U9).trans U10).trans U11).trans U12).trans U13).trans U14).trans U15).trans U16).trans U17).trans U18) _ _ B7) (.int _) (fun z => by cases z) (fun z e => by injection e with e; subst e; decide) (by decide +kernel)
        rcases List.mem_cons.mp hx with rfl | hx
        · exact nd1 ((((((((((U9.trans U10).trans U11).trans U12).trans U13).trans U14).trans U15).trans U16).trans U17).trans U18) _ _ B8) (.int _) (fun z => by cases z) (fun z e => by injection e with e; subst e; decide) (by decide +kernel)
        rcases List.mem_cons.mp hx with rfl | hx
        · exact nd1 ((((((((U11.trans U12).trans U13).trans U14).trans U15).trans U16).trans U17).trans U18) _ _ B10) (.int _) (fun z => by cases z) (fun z e => by cases e) (by decide +kernel)
        rcases List.mem_cons.mp hx with rfl | hx
        · exact nd1 (((((((U12.trans U13).trans U14).trans U15).trans U16).trans U17).trans U18) _ _ B11) (.int _) (fun z => by cases z) (fun z e => by injection e with e; subst e; decide) (by decide +kernel)
        rcases List.mem_cons.mp hx with rfl | hx
        · exact nd1 ((((((U13.trans U14).trans U15).trans U16).trans U17).trans U18) _ _ B12) .non (fun z => by cases z) (fun z e => by injection e with e; subst e; decide) (by decide +kernel)
        rcases List.mem_cons.mp hx with rfl | hx
        · exact nd1 (((((U14.trans U15).trans U16).trans U17).trans U18) _ _ B13) (.int _) (fun z => by cases z) (fun z e => by injection e with e; subst e; decide) (by decide +kernel)
        rcases List.mem_cons.mp hx with rfl | hx
        · exact nd2 ((((U15.trans U16).trans U17).trans U18) _ _ B14) (.int _) (fun z => by cases z) (fun z e => by injection e with e; subst e; decide) (.int _) (fun z => by cases z) (fun z e => by injection e with e; subst e; decide) (by decide +kernel)
        rcases List.mem_cons.mp hx with rfl | hx
        · exact nd2 (((U16.trans U17).trans U18) _ _ B15) (.int _) (fun z => by cases z) (fun z e => by injection e with e; subst e; decide) (.lst (((U16.trans U17).trans U18) _ _ D15)) (fun z => by injection z with z; exact lq15 z) (fun z e => by injection e with e; subst e; decide) (icB_bad (List.mem_cons_of_mem _ List.mem_cons_self) (Bool.and_false _))
        rcases List.mem_cons.mp hx with rfl | hx
        · exact nd1 ((U17.trans U18) _ _ B16) (.lst ((U17.trans U18) _ _ D16)) (fun z => by injection z with z; exact lq16 z) (fun z e => by injection e with e; subst e; decide) (icB_bad List.mem_cons_self (Bool.and_false _))
        cases hx
      have sG : Same H5 G18 := (((((((((((((((((U1.trans U2).trans U3).trans U4).trans U5).trans U6).trans U7).trans U8).trans U9).trans U10).trans U11).trans U12).trans U13).trans U14).trans U15).trans U16).trans U17).trans U18)
      have wG : WellAt G18 wl 0 := hw.keepN (ExtN.of sG)
      have wne : q18 ≠ wl := fun e => by obtain ⟨_, _, _, e2, _⟩ := hw; have e3 := sG _ _ e2; rw [← e, B18] at e3; cases e3
      refine ⟨_, rfl, _, rfl, wl, q18, 0, _, rfl, wG, by decide, B18, wne, (by show 0 < 18; decide), (by show 18 ≤ 1000; decide), fun x H6 hx hw6 kb6 => ?_⟩
      have cx6 : IsC H6 x false := (things x hx).keepW wG hw6 kb6
      have T6 : Tabs [(PT, lawQ)] H6 := ((T4.ext s5).ext sG).keepW wG kb6
      have s6 : ExtN H3 H6 := fun b o e nt => kb6 _ _ (sG _ _ (s5 _ _ (s4 _ _ e nt))) fun z => by rw [← z, s4 _ _ e nt] at nwl; cases nwl
      -- the numbers
      refine ⟨_, rfl, _, rfl, rfl, (by show 0 ≤ sizeLine; decide), fun r1 w1 => ?_⟩
      obtain ⟨R1, f1, V1, E1⟩ := alloc (o := .lst []) w1
      rw [f1]
      refine ⟨(by show 0 ≤ sizeLine; decide), fun r2 w2 => ?_⟩
      obtain ⟨R2, f2, V2, E2⟩ := alloc (o := .tup []) w2
      rw [f2]
      refine ⟨_, rfl, fun r3 w3 => ?_⟩
      obtain ⟨R3, f3, V3, E3⟩ := alloc (o := .dK []) w3
      rw [f3]
      refine ⟨(by show 8 ≤ sizeLine; decide), fun r4 w4 => ?_⟩
      obtain ⟨R4, f4, V4, E4⟩ := alloc (o := .lst [.int (-1), .non, .bl (decide (V.int 1 = V.int 1)), .str "1", .ref r1, .ref r2, .int (-7), .ref r3]) w4
      rw [f4]
      have sR : Same H6 R4 := ((V1.trans V2).trans V3).trans V4
      have wR := hw6.keepN (ExtN.of sR)
      have wne2 : r4 ≠ wl := fun e => by obtain ⟨_, _, _, e2, _⟩ := hw6; have e3 := (((V1.trans V2).trans V3)) _ _ e2; rw [← e, w4] at e3; cases e3
      have nums : ∀ y ∈ [V.int (-1), .non, .bl (decide (V.int 1 = V.int 1)), .str "1", .ref r1, .ref r2, .int (-7), .ref r3], Pl R4 y ∧ numB y 0 = false := by
        intro y hy
        rcases List.mem_cons.mp hy with rfl | hy
        · exact ⟨.int _, by decide⟩
        rcases List.mem_cons.mp hy with rfl | hy
        · exact ⟨.non, rfl⟩
        rcases List.mem_cons.mp hy with rfl | hy
        · exact ⟨.bl _, rfl⟩
        rcases List.mem_cons.mp hy with rfl | hy
        · exact ⟨.str _, rfl⟩
        rcases List.mem_cons.mp hy with rfl | hy
        · exact ⟨.lst (((V2.trans V3).trans V4) _ _ E1), rfl⟩
        rcases List.mem_cons.mp hy with rfl | hy
        · exact ⟨.tup ((V3.trans V4) _ _ E2), rfl⟩
        rcases List.mem_cons.mp hy with rfl | hy
        · exact ⟨.int _, by decide⟩
        rcases List.mem_cons.mp hy with rfl | hy
        · exact ⟨.dct (V4 _ _ E3), rfl⟩
        cases hy
      refine ⟨wl, r4, _, _, rfl, wR, by decide, E4, wne2, (by show 0 < 8; decide), (by show 8 ≤ 1000; decide), fun y H7 hy hw7 kb7 => ?_⟩
      obtain ⟨py, ny⟩ := nums y hy
      have py7 := py.keepW wR hw7 kb7
      have cx7 : IsC H7 x false := (cx6.keepN (ExtN.of sR)).keepW wR hw7 kb7
      have T7 : Tabs [(PT, lawQ)] H7 := (T6.ext sR).keepW wR kb7
      have s7 : ExtN H3 H7 := fun b o e nt => kb7 _ _ (sR _ _ (s6 _ _ e nt)) fun z => by rw [← z, s4 _ _ e nt] at nwl; cases nwl
      refine ⟨(by show 2 ≤ sizeLine; decide), fun t5 z5 => ?_⟩
      obtain ⟨H8, e8, S8, A8⟩ := alloc (o := .tup [x, y]) z5
      rw [e8]
      refine ⟨t5, _, rfl, .of A8, rfl, _, _, rfl, _, _, rfl, rfl, ?_⟩
      have cx := cx7.keepN (ExtN.of S8)
      have pl := py7.keep S8
      have T8 := T7.ext S8
      have hw8 := hw7.keepN (ExtN.of S8)
      have s8 : ExtN H3 H8 := s7.trans (ExtN.of S8)
      have nwl3 : ∀ b o, H3 b = some o → (∀ ps, o ≠ .tbl ps) → b ≠ wl := fun b o e nt z => by rw [← z, s4 _ _ e nt] at nwl; cases nwl
      refine ⟨5, rfl, by decide, by decide, for_it (walk_range (lo := 0) (n := 5)) (fun i σ H' => ∃ v7 : Option V, σ = [some (.ref a), some (.int z), some (.ref wl), some (.ref q18), v4, some y, some x, v7] ∧ ExtN H8 H' ∧ Tabs [(PT, lawQ)] H') ⟨_, rfl, .refl _, T8⟩ (fun _ _ _ _ _ => trivial) ?_ ?_⟩
      · rintro i u σ Hi _ hi ⟨v7, rfl, sN, Ti⟩ ⟨rfl, rfl⟩
        refine ⟨Ti, fun Hj eN Tj => ?_⟩
        refine ⟨_, rfl, _, rfl, _, rfl, _, x, y, rfl, (by omega), (by omega), .inl ⟨(cx.keepN sN).keepN eN, fun Hk d sk hd => ?_⟩⟩
        obtain ⟨Hl, el, Sl, Al⟩ := alloc (o := .xd [("counts", x)]) hd
        rw [el]
        refine ⟨true, e11, fun _ => ⟨rfl, d, x, rfl, Al, fun p hp => ?_⟩, fun z => by cases z⟩
        obtain ⟨Hm, em, Sm', Am⟩ := alloc (o := .tup [.str "counts", x]) hp
        rw [em]
        refine ⟨_, rfl, (by show 2 ≤ sizeLine; decide), fun p2' hp2 => ?_⟩
        obtain ⟨Hn, en, Sn, An⟩ := alloc (o := .tup [.str "counts", x]) hp2
        rw [en]
        refine ⟨.tp (.of (Sn _ _ Am)) (.of An) rfl (same_pair cx.nf), _, rfl, ?_⟩
        have all := ((sk.trans Sl).trans Sm').trans Sn
        exact ⟨_, rfl, (sN.trans eN).trans (ExtN.of all), Tj.ext all⟩
      · rintro σ H9 ⟨v7, rfl, s9, T9⟩
        have hw9 := hw8.keepN s9
        intro pd zd
        obtain ⟨P1, j1, W1, F1⟩ := alloc (o := .dK []) zd
        rw [j1]
        have np : pd ≠ wl := fun e => by obtain ⟨_, _, _, e2, _⟩ := hw9; rw [e, e2] at zd; cases zd
        have wP := hw9.keepN (ExtN.of W1)
        refine ⟨_, rfl, wl, 4, _, rfl, wP, by decide, by decide, by decide, fun d1 P2 a1 b1 wP2 kP2 => ?_⟩
        refine ⟨_, rfl, wl, 151, _, rfl, wP2, by decide, by decide, by decide, fun d2 P3 a2 b2 wP3 kP3 => ?_⟩
        refine ⟨_, rfl, wl, 146, _, rfl, wP3, by decide, by decide, by decide, fun d3 P4 a3 b3 wP4 kP4 => ?_⟩
        have F4 := kP4 _ _ (kP3 _ _ (kP2 _ _ F1 np) np) np
        refine ⟨F4, [(.inr "a", .int d1), (.inr "z", .int d2), (.inr "k", .int d3)], rfl, (by show 3 ≤ 15; decide), ?_⟩
        have kW4 : KeepB wl H9 P4 := fun b o e n => kP4 _ _ (kP3 _ _ (kP2 _ _ (W1 _ _ e) n) n) n
        obtain ⟨P5, j5, K5, F5⟩ : ∃ P5, upd P4 pd (.dK (mergeK [] [(.inr "a", .int d1), (.inr "z", .int d2), (.inr "k", .int d3)])) = P5 ∧ KeepB wl H9 P5 ∧ P5 pd = some (.dK [(.inr "a", .int d1), (.inr "z", .int d2), (.inr "k", .int d3)]) :=
          ⟨_, rfl, fun b o e n => by rw [upd_ne (ne_of_none e zd)]; exact kW4 _ _ e n, upd_same⟩
        rw [j5]
        have wP5 : WellAt P5 wl (0 + 1 + 1 + 1 + 1 + 1) := by
          obtain ⟨u0, u1, u2, eu, ru⟩ := wP4
          exact ⟨u0, u1, u2, by rw [← j5, upd_ne (Ne.symm np)]; exact eu, ru⟩
        have T5 : Tabs [(PT, lawQ)] P5 := T9.keepW hw9 K5
        have s5' : ExtN H3 P5 := fun b o e nt => K5 _ _ ((s8.trans s9) _ _ e nt) (nwl3 b o e nt)
        have py5 : Pl P5 y := (pl.keepN s9).keepW hw9 wP5 K5
        have ic : icB [(.inr "a", .int d1), (.inr "z", .int d2), (.inr "k", .int d3)] = true := by
          have h1 : entOk (.inr "a", .int d1) = true := by
            show (keyOk (.inr "a") && decide (0 ≤ d1)) = true
            rw [decide_eq_true a1, show keyOk (.inr "a") = true from by decide +kernel]
            rfl
          have h2 : entOk (.inr "z", .int d2) = true := by
            show (keyOk (.inr "z") && decide (0 ≤ d2)) = true
            rw [decide_eq_true a2, show keyOk (.inr "z") = true from by decide +kernel]
            rfl
          have h3 : entOk (.inr "k", .int d3) = true := by
            show (keyOk (.inr "k") && decide (0 ≤ d3)) = true
            rw [decide_eq_true a3, show keyOk (.inr "k") = true from by decide +kernel]
            rfl
          unfold icB
          rw [List.all_cons, List.all_cons, List.all_cons, h1, h2, h3]
          show decide (d1 + (d2 + (d3 + 0)) ≤ 300) = true
          exact decide_eq_true (by omega)
        have good : GoodC P5 (.ref pd) pd [(.inr "a", .int d1), (.inr "z", .int d2), (.inr "k", .int d3)] [d1, d2, d3] := by
          refine ⟨rfl, F5, ?_, rfl, ⟨fun n hn => ?_, ?_, by show 3 ≤ 27; decide⟩, by show 3 ≤ 5; decide⟩
          · rw [← ic]
            refine .dct F5 (fun q hq => ?_) fun q hq z e => ?_
            · rcases List.mem_cons.mp hq with rfl | hq
              · exact ⟨.int _, fun z => by cases z⟩
              rcases List.mem_cons.mp hq with rfl | hq
              · exact ⟨.int _, fun z => by cases z⟩
              rw [List.mem_singleton.mp hq]
              exact ⟨.int _, fun z => by cases z⟩
            · rcases List.mem_cons.mp hq with rfl | hq
              · injection e with e
                subst e
                decide
              rcases List.mem_cons.mp hq with rfl | hq
              · injection e with e
                subst e
                decide
              rw [List.mem_singleton.mp hq] at e
              injection e with e
              subst e
              decide
          · rcases List.mem_cons.mp hn with rfl | hn
            · exact a1
            rcases List.mem_cons.mp hn with rfl | hn
            · exact a2
            rw [List.mem_singleton.mp hn]
            exact a3
          · show d1 + (d2 + (d3 + 0)) ≤ 300
            omega
        refine ⟨3, 5, rfl, ⟨by decide, by decide, by decide, by decide⟩, for_it (walk_range (lo := 3) (n := (5 - 3 : Int).toNat)) (fun i σ H' => ∃ v7 : Option V, σ = [some (.ref a), some (.int z), some (.ref wl), some (.ref q18), some (.ref pd), some y, some x, v7] ∧ ExtN P5 H' ∧ Tabs [(PT, lawQ)] H') ⟨_, rfl, .refl _, T5⟩ (fun _ _ _ _ _ => trivial) ?_ ?_⟩
        · rintro i u σ Hi _ hi ⟨v7, rfl, sN, Ti⟩ ⟨rfl, rfl⟩
          have hi2 : i < 2 := hi
          refine ⟨Ti, fun Hj eN Tj => ?_⟩
          refine ⟨_, rfl, _, rfl, _, rfl, _, .ref pd, y, rfl, (by omega), (by omega), .inr ⟨pd, _, _, (good.keepN sN).keepN eN, .inr ⟨by omega, (py5.keepN sN).keepN eN, ny, fun Hk d sk hd => ?_⟩⟩⟩
          obtain ⟨Hl, el, Sl, Al⟩ := alloc (o := .xd [("number", y)]) hd
          rw [el]
          refine ⟨false, e21, fun z => (by cases z), fun _ => ⟨true, e22, fun _ => ⟨rfl, d, y, rfl, Al, fun p hp => ?_⟩, fun z => by cases z⟩⟩
          obtain ⟨Hm, em, Sm', Am⟩ := alloc (o := .tup [.str "number", y]) hp
          rw [em]
          refine ⟨_, rfl, (by show 2 ≤ sizeLine; decide), fun p2' hp2 => ?_⟩
          obtain ⟨Hn, en, Sn, An⟩ := alloc (o := .tup [.str "number", y]) hp2
          rw [en]
          refine ⟨.tp (.of (Sn _ _ Am)) (.of An) rfl (same_pair pl.nf), _, rfl, ?_⟩
          have all := ((sk.trans Sl).trans Sm').trans Sn
          exact ⟨_, rfl, (sN.trans eN).trans (ExtN.of all), Tj.ext all⟩
        · rintro σ L1 ⟨v7, rfl, sL, TL1⟩
          refine ⟨5, rfl, by decide, by decide, for_it (walk_range (lo := 0) (n := 5)) (fun i σ H' => ∃ v7 : Option V, σ = [some (.ref a), some (.int z), some (.ref wl), some (.ref q18), some (.ref pd), some y, some x, v7] ∧ ExtN P5 H' ∧ Tabs [(PT, lawQ)] H') ⟨_, rfl, sL, TL1⟩ (fun _ _ _ _ _ => trivial) ?_ ?_⟩
          · rintro i u σ Hi _ hi ⟨v7, rfl, sN, Ti⟩ ⟨rfl, rfl⟩
            refine ⟨Ti, fun Hj eN Tj => ?_⟩
            refine ⟨_, rfl, _, rfl, _, .ref pd, .int 0, rfl, (by omega), (by omega), .inr ⟨pd, _, _, (good.keepN sN).keepN eN, .inl ⟨rfl, fun Hk v sk => ⟨(by show 2 ≤ sizeLine; decide), fun p hp => ?_⟩⟩⟩⟩
            obtain ⟨Hm, em, Sm', Am⟩ := alloc (o := .tup [.str "told", .int v]) hp
            rw [em]
            refine ⟨p, _, 0, _, rfl, rfl, .of Am, rfl, rfl, _, rfl, iteNS (by decide) ?_⟩
            have all := sk.trans Sm'
            exact ⟨_, rfl, (sN.trans eN).trans (ExtN.of all), Tj.ext all⟩
          · rintro σ L2 ⟨v7, rfl, sL2, TL2⟩
            exact ⟨_, _, _, _, _, _, _, rfl, s5'.trans sL2, TL2⟩
    · rintro σ H4 ⟨v1, v2, v3, v4, v5, v6, v7, rfl, s4, T4⟩
      exact k H4
end
end T08

set_option Elab.async false
set_option linter.all false
set_option maxRecDepth 100000
set_option maxHeartbeats 4000000
namespace T08
open PySem L2 EK LamX
theorem all_mk {l : PySem.W.OpenLaw} {w : World} {K : PySem.W.Frag} {h : Heap} {mg : Str → Option Value} {fa C1 C2 i1 i2 : Addr} {tl tm : Tok} (X : K.In h) (G : h.Ns mainGlobals mg) (hfa : mg "law" = some (.ref fa))
    {fT : Addr} {odT anT : Option Addr} {slT : Array (Option Value)} {ocT kVT dcT pmT cdT ctT : Value}
    {fL : Addr} {odL anL : Option Addr} {slL : Array (Option Value)} {ocL kVL dcL pmL cdL ctL : Value}
    {fN : Addr} {odN anN : Option Addr} {slN : Array (Option Value)} {ocN kVN dcN pmN cdN ctN : Value}
    {fC : Addr} {odC anC : Option Addr} {slC : Array (Option Value)} {ocC kVC dcC pmC cdC ctC : Value}
    {fM : Addr} {odM anM : Option Addr} {slM : Array (Option Value)} {ocM kVM dcM pmM cdM ctM : Value}
    {fK : Addr} {odK anK : Option Addr} {slK : Array (Option Value)} {ocK kVK dcK pmK cdK ctK : Value}
    {f1 : Addr} {od1 an1 : Option Addr} {sl1 : Array (Option Value)} {oc1 kV1 dc1 pm1 cd1 ct1 : Value}
    {f2 : Addr} {od2 an2 : Option Addr} {sl2 : Array (Option Value)} {oc2 kV2 dc2 pm2 cd2 ct2 : Value}
    {f3 : Addr} {od3 an3 : Option Addr} {sl3 : Array (Option Value)} {oc3 kV3 dc3 pm3 cd3 ct3 : Value}
    {f4 : Addr} {od4 an4 : Option Addr} {sl4 : Array (Option Value)} {oc4 kV4 dc4 pm4 cd4 ct4 : Value}
    {f5 : Addr} {od5 an5 : Option Addr} {sl5 : Array (Option Value)} {oc5 kV5 dc5 pm5 cd5 ct5 : Value}
    {fA : Addr} {odA anA : Option Addr} {slA : Array (Option Value)} {ocA kVA dcA pmA cdA ctA : Value}
    {fR : Addr} {odR anR : Option Addr} {slR : Array (Option Value)} {ocR kVR dcR pmR cdR ctR : Value}
    {fP : Addr} {odP anP : Option Addr} {slP : Array (Option Value)} {ocP kVP dcP pmP cdP ctP : Value}
    {fS : Addr} {odS anS : Option Addr} {slS : Array (Option Value)} {ocS kVS dcS pmS cdS ctS : Value}
    {fW : Addr} {odW anW : Option Addr} {slW : Array (Option Value)} {ocW kVW dcW pmW cdW ctW : Value}
    {fD : Addr} {odD anD : Option Addr} {slD : Array (Option Value)} {ocD kVD dcD pmD cdD ctD : Value}
    {fO : Addr} {odO anO : Option Addr} {slO : Array (Option Value)} {ocO kVO dcO pmO cdO ctO : Value}
    {fY : Addr} {odY anY : Option Addr} {slY : Array (Option Value)} {ocY kVY dcY pmY cdY ctY : Value}
    {fQ : Addr} {odQ anQ : Option Addr} {slQ : Array (Option Value)} {ocQ kVQ dcQ pmQ cdQ ctQ : Value}
    {fZ : Addr} {odZ anZ : Option Addr} {slZ : Array (Option Value)} {ocZ kVZ dcZ pmZ  ctZ : Value} {cZa PT : Addr}
    (hTab : h.get? PT = some { cls := .none, data := .fields #[] }) (T1 : ErrTxt l.prog K mg "NoCounts" "counts" C1 i1) (T2 : ErrTxt l.prog K mg "NoNumber" "number" C2 i2)
    (e11 : PySem.W.exmOne K (.ref C1) (.ref C1) = some true) (e21 : PySem.W.exmOne K (.ref C2) (.ref C1) = some false) (e22 : PySem.W.exmOne K (.ref C2) (.ref C2) = some true)
    (aT : PySem.W.nsIn K mainGlobals "is_text" = some (some (.ref fT))) (lT : K.lookup fT = some ⟨ocT, odT, .func (PySem.W.fnOf "is_text" "is_text" (defArgs sIsText) (defBody sIsText) (defScope sIsText) .none kVT dcT pmT anT cdT ctT), slT⟩) (cT : PySem.W.codeIn K cdT "is_text" = true) (kT : PySem.W.keepIn K (.ref fT) = true)
    (aL : PySem.W.nsIn K mainGlobals "is_letter" = some (some (.ref fL))) (lL : K.lookup fL = some ⟨ocL, odL, .func (PySem.W.fnOf "is_letter" "is_letter" (defArgs sIsLetter) (defBody sIsLetter) (defScope sIsLetter) .none kVL dcL pmL anL cdL ctL), slL⟩) (cL : PySem.W.codeIn K cdL "is_letter" = true) (kL : PySem.W.keepIn K (.ref fL) = true)
    (aN : PySem.W.nsIn K mainGlobals "is_number" = some (some (.ref fN))) (lN : K.lookup fN = some ⟨ocN, odN, .func (PySem.W.fnOf "is_number" "is_number" (defArgs sIsNumber) (defBody sIsNumber) (defScope sIsNumber) .none kVN dcN pmN anN cdN ctN), slN⟩) (cN : PySem.W.codeIn K cdN "is_number" = true) (kN : PySem.W.keepIn K (.ref fN) = true)
    (aC : PySem.W.nsIn K mainGlobals "is_counts" = some (some (.ref fC))) (lC : K.lookup fC = some ⟨ocC, odC, .func (PySem.W.fnOf "is_counts" "is_counts" (defArgs sIsCounts) (defBody sIsCounts) (defScope sIsCounts) .none kVC dcC pmC anC cdC ctC), slC⟩) (cC : PySem.W.codeIn K cdC "is_counts" = true) (kC : PySem.W.keepIn K (.ref fC) = true)
    (aM : PySem.W.nsIn K mainGlobals "check_number" = some (some (.ref fM))) (lM : K.lookup fM = some ⟨ocM, odM, .func (PySem.W.fnOf "check_number" "check_number" (defArgs sCkNumber) (defBody sCkNumber) (defScope sCkNumber) .none kVM dcM pmM anM cdM ctM), slM⟩) (cM : PySem.W.codeIn K cdM "check_number" = true) (kM : PySem.W.keepIn K (.ref fM) = true)
    (aK : PySem.W.nsIn K mainGlobals "check_counts" = some (some (.ref fK))) (lK : K.lookup fK = some ⟨ocK, odK, .func (PySem.W.fnOf "check_counts" "check_counts" (defArgs sCkCounts) (defBody sCkCounts) (defScope sCkCounts) .none kVK dcK pmK anK cdK ctK), slK⟩) (cK : PySem.W.codeIn K cdK "check_counts" = true) (kK : PySem.W.keepIn K (.ref fK) = true)
    (a1 : PySem.W.nsIn K mainGlobals "texts_number" = some (some (.ref f1))) (l1 : K.lookup f1 = some ⟨oc1, od1, .func (PySem.W.fnOf "texts_number" "texts_number" (defArgs sTexts) (defBody sTexts) (defScope sTexts) .none kV1 dc1 pm1 an1 cd1 ct1), sl1⟩) (c1 : PySem.W.codeIn K cd1 "texts_number" = true) (k1 : PySem.W.keepIn K (.ref f1) = true)
    (a2 : PySem.W.nsIn K mainGlobals "rings_number" = some (some (.ref f2))) (l2 : K.lookup f2 = some ⟨oc2, od2, .func (PySem.W.fnOf "rings_number" "rings_number" (defArgs sRings) (defBody sRings) (defScope sRings) .none kV2 dc2 pm2 an2 cd2 ct2), sl2⟩) (c2 : PySem.W.codeIn K cd2 "rings_number" = true) (k2 : PySem.W.keepIn K (.ref f2) = true)
    (a3 : PySem.W.nsIn K mainGlobals "turns_number" = some (some (.ref f3))) (l3 : K.lookup f3 = some ⟨oc3, od3, .func (PySem.W.fnOf "turns_number" "turns_number" (defArgs sTurns) (defBody sTurns) (defScope sTurns) .none kV3 dc3 pm3 an3 cd3 ct3), sl3⟩) (c3 : PySem.W.codeIn K cd3 "turns_number" = true) (k3 : PySem.W.keepIn K (.ref f3) = true)
    (a4 : PySem.W.nsIn K mainGlobals "lists_number" = some (some (.ref f4))) (l4 : K.lookup f4 = some ⟨oc4, od4, .func (PySem.W.fnOf "lists_number" "lists_number" (defArgs sLists) (defBody sLists) (defScope sLists) .none kV4 dc4 pm4 an4 cd4 ct4), sl4⟩) (c4 : PySem.W.codeIn K cd4 "lists_number" = true) (k4 : PySem.W.keepIn K (.ref f4) = true)
    (a5 : PySem.W.nsIn K mainGlobals "rows_number" = some (some (.ref f5))) (l5 : K.lookup f5 = some ⟨oc5, od5, .func (PySem.W.fnOf "rows_number" "rows_number" (defArgs sRows) (defBody sRows) (defScope sRows) .none kV5 dc5 pm5 an5 cd5 ct5), sl5⟩) (c5 : PySem.W.codeIn K cd5 "rows_number" = true) (k5 : PySem.W.keepIn K (.ref f5) = true)
    (aA : PySem.W.nsIn K mainGlobals "_arrangements" = some (some (.ref fA))) (lA : K.lookup fA = some ⟨ocA, odA, .func (PySem.W.fnOf "_arrangements" "_arrangements" (defArgs sArr) (defBody sArr) (defScope sArr) .none kVA dcA pmA anA cdA ctA), slA⟩) (cA : PySem.W.codeIn K cdA "_arrangements" = true) (kA : PySem.W.keepIn K (.ref fA) = true)
    (aR : PySem.W.nsIn K mainGlobals "_primitive_rings" = some (some (.ref fR))) (lR : K.lookup fR = some ⟨ocR, odR, .func (PySem.W.fnOf "_primitive_rings" "_primitive_rings" (defArgs sPR) (defBody sPR) (defScope sPR) .none kVR dcR pmR anR cdR ctR), slR⟩) (cR : PySem.W.codeIn K cdR "_primitive_rings" = true) (kR : PySem.W.keepIn K (.ref fR) = true)
    (aP : PySem.W.nsIn K mainGlobals "_primitive_words" = some (some (.ref fP))) (lP : K.lookup fP = some ⟨ocP, odP, .func (PySem.W.fnOf "_primitive_words" "_primitive_words" (defArgs sPW) (defBody sPW) (defScope sPW) .none kVP dcP pmP anP cdP ctP), slP⟩) (cP : PySem.W.codeIn K cdP "_primitive_words" = true) (kP : PySem.W.keepIn K (.ref fP) = true)
    (aS : PySem.W.nsIn K mainGlobals "_shares" = some (some (.ref fS))) (lS : K.lookup fS = some ⟨ocS, odS, .func (PySem.W.fnOf "_shares" "_shares" (defArgs sShares) (defBody sShares) (defScope sShares) .none kVS dcS pmS anS cdS ctS), slS⟩) (cS : PySem.W.codeIn K cdS "_shares" = true) (kS : PySem.W.keepIn K (.ref fS) = true)
    (aW : PySem.W.nsIn K mainGlobals "_law_well" = some (some (.ref fW))) (lW : K.lookup fW = some ⟨ocW, odW, .func (PySem.W.fnOf "_law_well" "_law_well" (defArgs sWell) (defBody sWell) (defScope sWell) .none kVW dcW pmW anW cdW ctW), slW⟩) (cW : PySem.W.codeIn K cdW "_law_well" = true) (kW : PySem.W.keepIn K (.ref fW) = true)
    (aD : PySem.W.nsIn K mainGlobals "_law_draw" = some (some (.ref fD))) (lD : K.lookup fD = some ⟨ocD, odD, .func (PySem.W.fnOf "_law_draw" "_law_draw" (defArgs sDraw) (defBody sDraw) (defScope sDraw) .none kVD dcD pmD anD cdD ctD), slD⟩) (cD : PySem.W.codeIn K cdD "_law_draw" = true) (kD : PySem.W.keepIn K (.ref fD) = true)
    (aO : PySem.W.nsIn K mainGlobals "_law_one" = some (some (.ref fO))) (lO : K.lookup fO = some ⟨ocO, odO, .func (PySem.W.fnOf "_law_one" "_law_one" (defArgs sOne) (defBody sOne) (defScope sOne) .none kVO dcO pmO anO cdO ctO), slO⟩) (cO : PySem.W.codeIn K cdO "_law_one" = true) (kO : PySem.W.keepIn K (.ref fO) = true)
    (aY : PySem.W.nsIn K mainGlobals "_law_ask" = some (some (.ref fY))) (lY : K.lookup fY = some ⟨ocY, odY, .func (PySem.W.fnOf "_law_ask" "_law_ask" (defArgs sAsk) (defBody sAsk) (defScope sAsk) .none kVY dcY pmY anY cdY ctY), slY⟩) (cY : PySem.W.codeIn K cdY "_law_ask" = true) (kY : PySem.W.keepIn K (.ref fY) = true)
    (aQ : PySem.W.nsIn K mainGlobals "_law_said" = some (some (.ref fQ))) (lQ : K.lookup fQ = some ⟨ocQ, odQ, .func (PySem.W.fnOf "_law_said" "_law_said" (defArgs sSaid) (defBody sSaid) (defScope sSaid) .none kVQ dcQ pmQ anQ cdQ ctQ), slQ⟩) (cQ : PySem.W.codeIn K cdQ "_law_said" = true) (kQ : PySem.W.keepIn K (.ref fQ) = true)
    (aZ : PySem.W.nsIn K mainGlobals "law" = some (some (.ref fZ))) (lZ : K.lookup fZ = some ⟨ocZ, odZ, .func (PySem.W.fnOf "law" "law" (defArgs sLaw) (defBody sLaw) (defScope sLaw) .none kVZ dcZ pmZ anZ (.ref cZa) ctZ), slZ⟩) (cZ : PySem.W.codeIn K (.ref cZa) "law" = true) (kZ : PySem.W.keepIn K (.ref fZ) = true)
    (nT : K.lookup PT = none) (hCd : PySem.W.codeHdIn K cZa PT = true)
    (y1 : PySem.W.nsIn K mainGlobals "LETTERS" = some (some (.str "abcdefghijklmnopqrstuvwxyz" tl))) (y2 : PySem.W.nsIn K mainGlobals "MOST_LETTERS" = some (some (.int 300 tm))) (y3 : PySem.W.nsIn K mainGlobals "comb" = some (some (.builtin "math.comb"))) (y4 : PySem.W.nsIn K mainGlobals "gcd" = some (some (.builtin "math.gcd")))
    (z1 : PySem.W.nsIn K mainGlobals "isinstance" = some none) (z2 : PySem.W.nsIn K mainGlobals "str" = some none) (z3 : PySem.W.nsIn K mainGlobals "int" = some none) (z4 : PySem.W.nsIn K mainGlobals "bool" = some none) (z5 : PySem.W.nsIn K mainGlobals "dict" = some none) (z6 : PySem.W.nsIn K mainGlobals "all" = some none) (z7 : PySem.W.nsIn K mainGlobals "len" = some none) (z8 : PySem.W.nsIn K mainGlobals "sum" = some none) (z9 : PySem.W.nsIn K mainGlobals "range" = some none) (z10 : PySem.W.nsIn K mainGlobals "list" = some none) : LawAtS l w K CX0 18 63 "_law_script" mg fa h := by
  have e := hfa.symm.trans (PySem.W.mg_of X G aZ)
  cases e
  have TD : TxtD K mg := ⟨PySem.W.mg_none_of X G z3, PySem.W.mg_none_of X G z7⟩
  have TC : TxtC K mg := ⟨PySem.W.mg_none_of X G z1, PySem.W.mg_none_of X G z2, PySem.W.mg_none_of X G z3, PySem.W.mg_none_of X G z4, PySem.W.mg_none_of X G z5, PySem.W.mg_none_of X G z6, PySem.W.mg_none_of X G z7, PySem.W.mg_none_of X G z8, ⟨_, PySem.W.mg_of X G y1, ⟨tl, rfl⟩⟩, ⟨_, PySem.W.mg_of X G y2, ⟨tm, rfl⟩⟩⟩
  have TX : TxtN K mg := ⟨PySem.W.mg_of X G y3, PySem.W.mg_of X G y4, PySem.W.mg_none_of X G z9, PySem.W.mg_none_of X G z10, PySem.W.mg_none_of X G z8⟩
  have FT := fun_mk (st := sIsText) lT cT kT
  have FL := fun_mk (st := sIsLetter) lL cL kL
  have FN := fun_mk (st := sIsNumber) lN cN kN
  have FC := fun_mk (st := sIsCounts) lC cC kC
  have FM := fun_mk (st := sCkNumber) lM cM kM
  have FK := fun_mk (st := sCkCounts) lK cK kK
  have F1 := fun_mk (st := sTexts) l1 c1 k1
  have F2 := fun_mk (st := sRings) l2 c2 k2
  have F3 := fun_mk (st := sTurns) l3 c3 k3
  have F4 := fun_mk (st := sLists) l4 c4 k4
  have F5 := fun_mk (st := sRows) l5 c5 k5
  have FA := fun_mk (st := sArr) lA cA kA
  have FR := fun_mk (st := sPR) lR cR kR
  have FP := fun_mk (st := sPW) lP cP kP
  have FS := fun_mk (st := sShares) lS cS kS
  have FW := fun_mk (st := sWell) lW cW kW
  have FD := fun_mk (st := sDraw) lD cD kD
  have FO := fun_mk (st := sOne) lO cO kO
  have FY := fun_mk (st := sAsk) lY cY kY
  have FQ := fun_mk (st := sSaid) lQ cQ kQ
  have bT := FT.binds (ps := ["value"]) fun _ _ _ _ _ _ us hl => match us, hl with | [_], _ => rfl
  have bL := FL.binds (ps := ["value"]) fun _ _ _ _ _ _ us hl => match us, hl with | [_], _ => rfl
  have bN := FN.binds (ps := ["value", "least"]) fun _ _ _ _ _ _ us hl => match us, hl with | [_, _], _ => rfl
  have bC := FC.binds (ps := ["value"]) fun _ _ _ _ _ _ us hl => match us, hl with | [_], _ => rfl
  have bM := FM.binds (ps := ["number", "least"]) fun _ _ _ _ _ _ us hl => match us, hl with | [_, _], _ => rfl
  have bK := FK.binds (ps := ["counts"]) fun _ _ _ _ _ _ us hl => match us, hl with | [_], _ => rfl
  have b1 := F1.binds (ps := ["counts"]) fun _ _ _ _ _ _ us hl => match us, hl with | [_], _ => rfl
  have b2 := F2.binds (ps := ["counts"]) fun _ _ _ _ _ _ us hl => match us, hl with | [_], _ => rfl
  have b3 := F3.binds (ps := ["counts"]) fun _ _ _ _ _ _ us hl => match us, hl with | [_], _ => rfl
  have b4 := F4.binds (ps := ["counts", "m"]) fun _ _ _ _ _ _ us hl => match us, hl with | [_, _], _ => rfl
  have b5 := F5.binds (ps := ["counts", "m"]) fun _ _ _ _ _ _ us hl => match us, hl with | [_, _], _ => rfl
  have bA := FA.binds (ps := ["sizes"]) fun _ _ _ _ _ _ us hl => match us, hl with | [_], _ => rfl
  have bR := FR.binds (ps := ["sizes"]) fun _ _ _ _ _ _ us hl => match us, hl with | [_], _ => rfl
  have bP := FP.binds (ps := ["sizes"]) fun _ _ _ _ _ _ us hl => match us, hl with | [_], _ => rfl
  have bS := FS.binds (ps := ["sizes"]) fun _ _ _ _ _ _ us hl => match us, hl with | [_], _ => rfl
  have bW := FW.binds (ps := ["_law_cell"]) fun _ _ _ _ _ _ us hl => match us, hl with | [_], _ => rfl
  have bD := FD.binds (ps := ["_law_well_here", "_law_many"]) fun _ _ _ _ _ _ us hl => match us, hl with | [_, _], _ => rfl
  have bO := FO.binds (ps := ["_law_well_here", "_law_some"]) fun _ _ _ _ _ _ us hl => match us, hl with | [_, _], _ => rfl
  have bY := FY.binds (ps := ["_law_way", "_law_counts", "_law_m"]) fun _ _ _ _ _ _ us hl => match us, hl with | [_, _, _], _ => rfl
  have bQ := FQ.binds (ps := ["_law_ask_here"]) fun _ _ _ _ _ _ us hl => match us, hl with | [_], _ => rfl
  have gT := PySem.W.mg_of X G aT
  have gL := PySem.W.mg_of X G aL
  have gN := PySem.W.mg_of X G aN
  have gC := PySem.W.mg_of X G aC
  have gM := PySem.W.mg_of X G aM
  have gK := PySem.W.mg_of X G aK
  have g1 := PySem.W.mg_of X G a1
  have g2 := PySem.W.mg_of X G a2
  have g3 := PySem.W.mg_of X G a3
  have g4 := PySem.W.mg_of X G a4
  have g5 := PySem.W.mg_of X G a5
  have gA := PySem.W.mg_of X G aA
  have gR := PySem.W.mg_of X G aR
  have gP := PySem.W.mg_of X G aP
  have gS := PySem.W.mg_of X G aS
  have gW := PySem.W.mg_of X G aW
  have gD := PySem.W.mg_of X G aD
  have gO := PySem.W.mg_of X G aO
  have gY := PySem.W.mg_of X G aY
  have gQ := PySem.W.mg_of X G aQ
  refine ⟨PySem.W.fnOf "law" "law" (defArgs sLaw) (defBody sLaw) (defScope sLaw) .none kVZ dcZ pmZ anZ (.ref cZa) ctZ, [(cZa, PT)], spLaw K PT, fun p hp => ?_, fun p hp => ?_, fun p hp => ?_, fun s u => .of_eq rfl, fun H a ns hl _ hT hS => ⟨a, ns, rfl, hS, hl, hT (cZa, PT) List.mem_cons_self, fun _ => rfl⟩, fun base _ _ hB => ?_⟩
  · rw [List.mem_singleton.mp hp]
    exact hTab
  · rw [List.mem_singleton.mp hp]
    exact nT
  · rw [List.mem_singleton.mp hp]
    exact PySem.W.codeHd_of_K X hCd
  have TB : TabB base mg cZa PT := hB (cZa, PT) List.mem_cons_self
  have GW : FnOk l.prog w K mg base CX0 1 fW _ ["_law_cell"] spWell := ok_well FW TD
  have GD : FnOk l.prog w K mg base CX0 1 fD _ ["_law_well_here", "_law_many"] spDraw := ok_draw FD TD
  have GO : FnOk l.prog w K mg base CX0 2 fO _ ["_law_well_here", "_law_some"] spOne := ok_one FO TD FD gD bD
  have GT : FnOk l.prog w K mg base CX0 1 fT _ ["value"] spText := ok_isText FT TC
  have GL : FnOk l.prog w K mg base CX0 2 fL _ ["value"] spLetter := ok_isLetter FL TC GT gT kT bT
  have GN : FnOk l.prog w K mg base CX0 1 fN _ ["value", "least"] spNumber := ok_isNumber FN TC
  have GC : FnOk l.prog w K mg base CX0 3 fC _ ["value"] spCounts := ok_isCounts FC TC GL gL kL bL GN gN kN bN
  have GM : FnOk l.prog w K mg base (L2.CX l.prog w) 3 fM _ ["number", "least"] (spCkN C2) := ok_ckN FM T2 GN gN kN bN
  have GK : FnOk l.prog w K mg base (L2.CX l.prog w) 4 fK _ ["counts"] (spCkC C1) := ok_ckC FK T1 GC gC kC bC
  have GA : FnOk l.prog w K mg base CX0 1 fA _ ["sizes"] (spArr K) := ok_arr FA TX
  have GS : FnOk l.prog w K mg base CX0 1 fS _ ["sizes"] (spShares K) := ok_shares FS TX
  have GP : FnOk l.prog w K mg base CX0 11 fP _ ["sizes"] (spPW K 10) := ok_pw FP TX gP kP bP GS gS kS bS GA gA kA bA 10
  have GR : FnOk l.prog w K mg base CX0 12 fR _ ["sizes"] (spPR K) := ok_pr FR TX gP kP bP GP
  have G1 : FnOk l.prog w K mg base (L2.CX l.prog w) 14 f1 _ ["counts"] (spN1 C1) := ok_texts F1 TX GK gK kK bK GA gA kA bA
  have G2 : FnOk l.prog w K mg base (L2.CX l.prog w) 14 f2 _ ["counts"] (spN1 C1) := ok_rings F2 TX GK gK kK bK GR gR kR bR
  have G3 : FnOk l.prog w K mg base (L2.CX l.prog w) 14 f3 _ ["counts"] (spN1 C1) := ok_turns F3 TX GK gK kK bK GR gR kR bR GS gS kS bS
  have G4 : FnOk l.prog w K mg base (L2.CX l.prog w) 14 f4 _ ["counts", "m"] (spN2 C1 C2) := ok_lists F4 TX GK gK kK bK GA gA kA bA GM gM kM bM
  have G5 : FnOk l.prog w K mg base (L2.CX l.prog w) 14 f5 _ ["counts", "m"] (spN2 C1 C2) := ok_rows F5 TX GK gK kK bK GA gA kA bA GM gM kM bM
  have GY : FnOk l.prog w K mg base (L2.CX l.prog w) 15 fY _ ["_law_way", "_law_counts", "_law_m"] (spAsk C1 C2) := ok_ask FY G1 g1 k1 b1 G2 g2 k2 b2 G3 g3 k3 b3 G4 g4 k4 b4 G5 g5 k5 b5
  exact ok_law lZ cZ TB TX T1 T2 e11 e21 e22 GW gW kW bW GO gO kO bO GD gD kD bD GY gY kY bY lQ gQ kQ cQ bQ
end T08
open PySem PySem.W PyProof.Rows
set_option maxRecDepth 100000 in
set_option maxHeartbeats 0 in
theorem PySem.Challenge.cw_turnindex_k08_counts_that_are_none_holds : PySem.Challenge.rw_turnindex_k08_counts_that_are_none.Holds := by
  w_on; o_law; k_head; (case hw => w_witness2)
  k_fill
  refine LamX.walk_ofTs (l := PySem.Challenge.rw_turnindex_k08_counts_that_are_none) (n := 63) (k := 18) (x := "_law_script") (CX := fun _ => L2.CX0) rfl (by decide) rfl ⟨rfl, by decide, by decide⟩ (fun w h Y => PySem.W.km_in_of Y) ?F (fun _ _ _ _ _ z => z)
  case F =>
    intro w mg fa h Y KX G hmg
    refine' T08.all_mk KX G hmg (PySem.W.km_tabs_of Y _ List.mem_cons_self) (EK.err_mk (x := "NoCounts") (f := "counts") KX G ?aC1 ?xL1 ?rv1 ?iC1 ?l11 ?c11 ?bd1 ?sc1 ?cd1 ?vf1 ?pf1 ?cL1 ?eB1 ?ho1 ?su1 ?fok1 ?top1) (EK.err_mk (x := "NoNumber") (f := "number") KX G ?aC2 ?xL2 ?rv2 ?iC2 ?l12 ?c12 ?bd2 ?sc2 ?cd2 ?vf2 ?pf2 ?cL2 ?eB2 ?ho2 ?su2 ?fok2 ?top2) ?e11 ?e21 ?e22 ?aT ?lT ?cT ?kT ?aL ?lL ?cL ?kL ?aN ?lN ?cN ?kN ?aC ?lC ?cC ?kC ?aM ?lM ?cM ?kM ?aK ?lK ?cK ?kK ?a1 ?l1 ?c1 ?k1 ?a2 ?l2 ?c2 ?k2 ?a3 ?l3 ?c3 ?k3 ?a4 ?l4 ?c4 ?k4 ?a5 ?l5 ?c5 ?k5 ?aA ?lA ?cA ?kA ?aR ?lR ?cR ?kR ?aP ?lP ?cP ?kP ?aS ?lS ?cS ?kS ?aW ?lW ?cW ?kW ?aD ?lD ?cD ?kD ?aO ?lO ?cO ?kO ?aY ?lY ?cY ?kY ?aQ ?lQ ?cQ ?kQ ?aZ ?lZ ?cZ ?kZ ?nT ?hCd ?y1 ?y2 ?y3 ?y4 ?z1 ?z2 ?z3 ?z4 ?z5 ?z6 ?z7 ?z8 ?z9 ?z10
    (case aC1 => k_is); (case xL1 => k_is); (case rv1 => kernel_rfl); (case iC1 => k_is); (case l11 => k_is); (case c11 => k_is); (case bd1 => exact fun _ _ => rfl); (case sc1 => exact fun L => ⟨_, rfl⟩); (case cd1 => k_is); (case vf1 => rfl); (case pf1 => kernel_rfl); (case cL1 => k_is); (case eB1 => kernel_rfl); (case ho1 => k_is); (case su1 => k_is); (case fok1 => exact ⟨by decide +kernel, by decide +kernel, by decide +kernel, by decide +kernel⟩); (case top1 => kernel_rfl)
    (case aC2 => k_is); (case xL2 => k_is); (case rv2 => kernel_rfl); (case iC2 => k_is); (case l12 => k_is); (case c12 => k_is); (case bd2 => exact fun _ _ => rfl); (case sc2 => exact fun L => ⟨_, rfl⟩); (case cd2 => k_is); (case vf2 => rfl); (case pf2 => kernel_rfl); (case cL2 => k_is); (case eB2 => kernel_rfl); (case ho2 => k_is); (case su2 => k_is); (case fok2 => exact ⟨by decide +kernel, by decide +kernel, by decide +kernel, by decide +kernel⟩); (case top2 => kernel_rfl)
    (case e11 => kernel_rfl); (case e21 => kernel_rfl); (case e22 => kernel_rfl)
    (case aT => k_is); (case lT => k_is); (case cT => k_is); (case kT => k_is)
    (case aL => k_is); (case lL => k_is); (case cL => k_is); (case kL => k_is)
    (case aN => k_is); (case lN => k_is); (case cN => k_is); (case kN => k_is)
    (case aC => k_is); (case lC => k_is); (case cC => k_is); (case kC => k_is)
    (case aM => k_is); (case lM => k_is); (case cM => k_is); (case kM => k_is)
    (case aK => k_is); (case lK => k_is); (case cK => k_is); (case kK => k_is)
    (case a1 => k_is); (case l1 => k_is); (case c1 => k_is); (case k1 => k_is)
    (case a2 => k_is); (case l2 => k_is); (case c2 => k_is); (case k2 => k_is)
    (case a3 => k_is); (case l3 => k_is); (case c3 => k_is); (case k3 => k_is)
    (case a4 => k_is); (case l4 => k_is); (case c4 => k_is); (case k4 => k_is)
    (case a5 => k_is); (case l5 => k_is); (case c5 => k_is); (case k5 => k_is)
    (case aA => k_is); (case lA => k_is); (case cA => k_is); (case kA => k_is)
    (case aR => k_is); (case lR => k_is); (case cR => k_is); (case kR => k_is)
    (case aP => k_is); (case lP => k_is); (case cP => k_is); (case kP => k_is)
    (case aS => k_is); (case lS => k_is); (case cS => k_is); (case kS => k_is)
    (case aW => k_is); (case lW => k_is); (case cW => k_is); (case kW => k_is)
    (case aD => k_is); (case lD => k_is); (case cD => k_is); (case kD => k_is)
    (case aO => k_is); (case lO => k_is); (case cO => k_is); (case kO => k_is)
    (case aY => k_is); (case lY => k_is); (case cY => k_is); (case kY => k_is)
    (case aQ => k_is); (case lQ => k_is); (case cQ => k_is); (case kQ => k_is)
    (case aZ => k_is); (case lZ => k_is); (case cZ => k_is); (case kZ => k_is)
    (case nT => kernel_rfl); (case hCd => kernel_rfl); (case y1 => k_is); (case y2 => k_is); (case y3 => k_is); (case y4 => k_is)
    (case z1 => k_is); (case z2 => k_is); (case z3 => k_is); (case z4 => k_is); (case z5 => k_is); (case z6 => k_is); (case z7 => k_is); (case z8 => k_is); (case z9 => k_is); (case z10 => k_is)
#print axioms PySem.Challenge.cw_turnindex_k08_counts_that_are_none_holds
