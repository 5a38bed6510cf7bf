import PyProof.Rows.All
import Wide.All
import OpenK.AllK
import Wide.FinOn
import KE.KExcSuper
import HandS.ForMost
import HandS.Exc
import HandS.ExcInit
import HandS.ExcField
import HandS.ExcValue
import HandS.Style
import HandS.Walk
import HandS.IsInst
import HandS.More
import KE.KExcIs
import PyProof.NeKinds
import KE.KEqDict
import HandS.ExcIs
import HandS.TryMany
import HandS.Lambda
import HandS.EndTab
import HandS.CallLocal
import HandS.DictSubView
import HandS.Sort
import HandS.Gcd
import HandS.Wide
import KE.KDictList
import KE.KMathGC
import PyProof.ListStr
import PyProof.CollectStr
import PyProof.Rows.SortShellAny
import HandS.Strs
import PyProof.StrWalks
import KE.SortData
import KE.DataMinMax
import HandS.Codes
import HandS.WordsExc
import HandS.Set
import HandS.Comp
import HandS.Words
import HandS.TryOnly
import KE.KNestM
import PySem.Challenge.RW_turnindex_k74_refused_absent_words
set_option Elab.async false
set_option linter.all false
set_option maxRecDepth 100000
set_option maxHeartbeats 4000000
/-! ErrKit: an error class of the program: __init__ says super().__init__(text), then keeps its one value. -/
namespace EK
open PySem PySem.W PySem.Calls PyProof.Rows PySem.HandSPX L2
/-! ### the text of such an __init__ -/
def eArgs (f : Str) (p1 p2 : Pos) : Arguments := { posonlyargs := [], args := [{ arg := "self", annotation := none, pos := p1 }, { arg := f, annotation := none, pos := p2 }], vararg := none, kwonlyargs := [], kw_defaults := [], kwarg := none, defaults := [] }
def eBody (f msg : Str) (a1 a2 a3 a4 a5 a6 b1 b2 b3 b4 : Pos) : List Stmt :=
  [.Expr (.Call (.Attribute (.Call (.Name "super" a1) [] [] a2) "__init__" a3) [.Constant (.str msg) 0 a4] [] a5) a6, .Assign [.Attribute (.Name "self" b1) f b2] (.Name f b3) b4]
def eScope (f : Str) : Scope := { kind := .function, names := [(PySem.Str.ofString "self", .local), (f, .local), (PySem.Str.ofString "__class__", .free), (PySem.Str.ofString "super", .globalImplicit)], isGenerator := false, isCoroutine := false, more := [] }

/-- the row super().__init__(msg) of the text, as a call of a method -/
def SupCall (a1 a2 a3 a4 a5 : Pos) (msg : Str) (env : Env) : Prop := ∃ pl : Sem Bool,
  eval (.Call (.Attribute (.Call (.Name "super" a1) [] [] a2) "__init__" a3) [.Constant (.str msg) 0 a4] [] a5) env = (do
    let ov ← attributeBase (.Call (.Name "super" a1) [] [] a2) "__init__" env (eval (.Call (.Name "super" a1) [] [] a2) env)
    standAt a3.atName
    let (g, first) ← holding [ov] (getMethod ov "__init__" pl)
    callWith a5 g first (backTo a5 (starEach [.Constant (.str msg) 0 a4] env)) [])
/-- what the top has written of the class x at C, of its __init__ at fI -/
structure ErrTxt (P : Program) (K : Frag) (mg : Str → Option Value) (x f : Str) (C fI : Addr) : Prop where
  gC : mg x = some (.ref C)
  cls : ∃ nm q N bs bm sn sub ab col dd k0 k1 k2 k3 k5, K.lookup C = some (excClassObj nm q C N bs bm true sn sub ab col dd k0 k1 k2 k3 k5 "ValueError.__new__") ∧ refsVE bm = true
  sa : findIn K (.ref C) "__setattr__" = some (some (.builtin "object.__setattr__"))
  ga : findIn K (.ref C) "__getattribute__" = some (some (.builtin "BaseException.__getattribute__"))
  gg : findIn K (.ref C) "__getattr__" = some none
  noN : findIn K (.ref C) f = some none
  iC : findIn K (.ref C) "__init__" = some (some (.ref fI))
  tC : typeIn K (.ref fI) = some (.type "function")
  kC : keepIn K (.ref C) = true
  exC : subIn K (.ref C) (.type "BaseException") = some true
  tyC : typeIn K (.ref C) = some (.type "type")
  hdC : hasDictIn K C = true
  te : exmOne K (.ref C) (.ref C) = some true
  hB : subIn K (.ref C) (.type "ValueError") = some true
  si : ks_superIn K C C "__init__" = some (some (.builtin "ValueError.__init__"))
  ho : nsIn K cStatics "thirdparty.any" = some none
  su : mg "super" = none
  mC : mroIn K C (.ref C) = some true
  fok : f ≠ "self" ∧ f ≠ "__class__" ∧ f ≠ "super" ∧ f ≠ "__debug__"
  top : (P.main.scope.names.lookup ("super" : Str)).isSome = false
  fn : ∃ (oc : Value) (od : Option Addr) (qn msg : Str) (doc pm : Value) (an : Option Addr) (cda cc : Addr) (ct : Value) (osl : Array (Option Value)) (p1 p2 a1 a2 a3 a4 a5 a6 b1 b2 b3 b4 : Pos),
    K.lookup fI = some ⟨oc, od, .func (ksFn "__init__" qn (eArgs f p1 p2) (eBody f msg a1 a2 a3 a4 a5 a6 b1 b2 b3 b4) (eScope f) .none .none doc pm an (.ref cda) ct cc), osl⟩ ∧ codeIn K (.ref cda) qn = true ∧
    (∀ u v : Value, bindArgs (ksFn "__init__" qn (eArgs f p1 p2) (eBody f msg a1 a2 a3 a4 a5 a6 b1 b2 b3 b4) (eScope f) .none .none doc pm an (.ref cda) ct cc) ⟨[u, v], []⟩ = pure [(("self" : Str), u), (f, v)]) ∧
    (∀ L : Addr, SupCall a1 a2 a3 a4 a5 msg (callEnv (ksFn "__init__" qn (eArgs f p1 p2) (eBody f msg a1 a2 a3 a4 a5 a6 b1 b2 b3 b4) (eScope f) .none .none doc pm an (.ref cda) ct cc) L fI)) ∧
    (∃ (ccl : Value) (cdd : Option Addr) (ccs : Array (Option Value)) (vs : Array Value) (file : Str) (tf : Tok), K.lookup cda = some ⟨ccl, cdd, .fields vs, ccs⟩ ∧ vs[2]? = some (.str file tf) ∧ ((P.main.file : Str) == file) = true) ∧
    ∃ (cl : Value) (cld : Option Addr) (csl : Array (Option Value)), K.lookup cc = some ⟨cl, cld, .cell (some (.ref C)), csl⟩
theorem one_size (v : Value) : [v].length ≤ sizeLine := by
  rw [sizeLine_eq]
  exact (by decide : 1 ≤ 16777216)
/-- what __init__ leaves of the exception at y -/
structure MadeI (h h' : Heap) (y C dx : Addr) (f : Str) (v : Value) : Prop where
  keep : ∀ b o, b ≠ y → h.get? b = some o → h'.get? b = some o
  obj : ∃ t1 : Addr, h'.get? y = some { cls := .ref C, dict := some dx, data := .fields #[.ref t1, .none, .none, .none, .bool false, .none] }
  dbig : h.objs.size ≤ dx
  dne : dx ≠ y
  ns : h'.Ns1 dx (fun z => if z = f then some v else none)
theorem kept_but {K : Frag} {h h' : Heap} {x : Addr} (X : K.In h) (hx : K.lookup x = none) (k : ∀ b o, b ≠ x → h.get? b = some o → h'.get? b = some o) : K.In h' := fun a o e =>
  k a o (fun z => by rw [z, hx] at e; cases e) (X a o e)
section
variable {prog : Program} {w : World} {A : Around} {E : Value → Shared → Prop} {R : Result → Shared → Prop} {s : Shared} {K : Frag} {mg : Str → Option Value} {C fI : Addr} {x f : Str}
/-- the method-wrapper that super().__init__ gives is called -/
theorem call_mw {u e t0 : Addr} {rest : List Value} {nm q : Str} {C N : Addr} {bs bm : List Value} {hdct : Bool} {sn : List Str} {sub : List Value} {ab : Bool} {col : Option Bool} {dd : Option Addr} {k0 k1 k2 k3 k5 : Option Value} {Q : Value → Shared → Prop}
    (hC : s.heap.get? C = some (excClassObj nm q C N bs bm hdct sn sub ab col dd k0 k1 k2 k3 k5 "ValueError.__new__")) (he : s.heap.get? e = some (excO C t0)) (hu : s.heap.get? u = some (kxs_mw "ValueError.__init__" e)) (hrest : rest.length ≤ sizeLine)
    (hq : ∀ h' t1, (∀ b o, b ≠ e → s.heap.get? b = some o → h'.get? b = some o) → h'.get? e = some (excO C t1) → Q .none { s with heap := h' }) :
    wpAny (model prog w) A (call (.ref u) rest) Q E s := by
  obtain ⟨hh, g, d, tk, os⟩ := s
  refine wpAny_call (codeAny_of_tree ?_)
  show wpAny _ A.in1 (callAny (.ref u) ⟨rest, []⟩) _ _ _
  simp only [callAny]
  refine wpAny_bind (wpAny_load hu ?_)
  simp only [kxs_mw, show (Value.type "method-wrapper" == Value.type "method" || Value.type "method-wrapper" == Value.type "builtin_function_or_method" || Value.type "method-wrapper" == Value.type "method-wrapper") = true by decide, if_true]
  refine KFB.if_so (by decide) ?_
  refine wpAny_bind (check_bound_init F.excBase_ValueError.toExcCallFacts hC he rfl ?_)
  refine wpAny_bind (wpAny_pure (wpAny_pure ?_))
  refine ⟨plainId_quiet F.excBase_ValueError.init.plain _, codeAny_builtin F.excBase_ValueError.initEntry ?_⟩
  exact exc_init_tree (cls := .ref C) (t0 := t0) (dv := none) (c2 := .none) (c3 := .none) (b4 := .bool false) he hrest fun h' k o _ => hq h' _ k o
theorem look_self (f : Str) : (eScope f).names.lookup ("self" : Str) = some .local := by
  show List.lookup ("self" : Str) ((("self" : Str), NameKind.local) :: _) = _
  rw [List.lookup_cons]
  simp
theorem look_f {f : Str} (h : f ≠ "self") : (eScope f).names.lookup f = some .local := by
  have e : (f == ("self" : Str)) = false := by simpa using h
  show List.lookup f ((("self" : Str), NameKind.local) :: (f, NameKind.local) :: _) = _
  rw [List.lookup_cons, e, List.lookup_cons]
  simp
theorem look_cls {f : Str} (h : f ≠ "__class__") : (eScope f).names.lookup ("__class__" : Str) = some .free := by
  have e : ((("__class__" : Str)) == f) = false := by simpa using Ne.symm h
  have e2 : ((("__class__" : Str)) == ("self" : Str)) = false := by decide +kernel
  show List.lookup ("__class__" : Str) ((("self" : Str), NameKind.local) :: (f, NameKind.local) :: (("__class__" : Str), NameKind.free) :: _) = _
  rw [List.lookup_cons, e2, List.lookup_cons, e, List.lookup_cons]
  simp
theorem look_super {f : Str} (h : f ≠ "super") : (eScope f).names.lookup ("super" : Str) = some .globalImplicit := by
  have e : ((("super" : Str)) == f) = false := by simpa using Ne.symm h
  have e2 : ((("super" : Str)) == ("self" : Str)) = false := by decide +kernel
  have e3 : ((("super" : Str)) == ("__class__" : Str)) = false := by decide +kernel
  show List.lookup ("super" : Str) ((("self" : Str), NameKind.local) :: (f, NameKind.local) :: (("__class__" : Str), NameKind.free) :: (("super" : Str), NameKind.globalImplicit) :: []) = _
  rw [List.lookup_cons, e2, List.lookup_cons, e, List.lookup_cons, e3, List.lookup_cons]
  simp
theorem bl_self {f : Str} (h : f ≠ "self") (a v : Value) : List.lookup ("self" : Str) ([(("self" : Str), a), (f, v)].reverse) = some a := by
  have e : ((("self" : Str)) == f) = false := by simpa using Ne.symm h
  show List.lookup ("self" : Str) ((f, v) :: (("self" : Str), a) :: []) = _
  rw [List.lookup_cons, e, List.lookup_cons]
  simp
theorem bl_f {f : Str} (a v : Value) : List.lookup f ([(("self" : Str), a), (f, v)].reverse) = some v := by
  show List.lookup f ((f, v) :: (("self" : Str), a) :: []) = _
  rw [List.lookup_cons]
  simp
theorem err_init (T : ErrTxt prog K mg x f C fI) {y t0 : Addr} {v : Value} (X : K.In s.heap) (hlim : s.heap.NoLimit) (hg : s.heap.Ns mainGlobals mg) (hb : ∃ mb, s.heap.Ns builtinsNs mb ∧ ∀ z : Str, z ≠ "__name__" → mb z = bootBuiltins z)
    (hx : s.heap.get? y = some (excO C t0)) (hnx : K.lookup y = none) (hroom : A.depth < recursionLimit)
    (hq : ∀ h' tk dx, MadeI s.heap h' y C dx f v → R (.ok (.ret .none)) { s with heap := h', toks := tk }) :
    codeAny (model prog w) A (.call (.ref fI) ⟨[.ref y, v], []⟩) R s := by
  obtain ⟨oc, od, qn, msg, doc, pm, an, cda, cc, ct, osl, p1, p2, a1, a2, a3, a4, a5, a6, b1, b2, b3, b4, ho, hcd, hB, hS, ⟨ccl, cdd, ccs, vs, file, tf, hcda, hvs, hfile⟩, ⟨cl, cld, csl, hcell⟩⟩ := T.fn
  obtain ⟨nm, q, N, bs, bm, sn, sub, ab, col, dd, k0, k1, k2, k3, k5, hC, hbm⟩ := T.cls
  obtain ⟨mb, hbn, hbv⟩ := hb
  obtain ⟨hf1, hf2, hf3, hf4⟩ := T.fok
  have hcl : clsIn K C = some { name := nm, bases := bs, mro := .ref C :: bm, ns := N, qualname := q, hasDict := true, slotNames := sn, subclasses := sub, abstract := ab, collection := col, hasDel := false } := by unfold clsIn; rw [hC] <;> rfl
  refine ks_codeAny_call_defAt (fd := ksFn "__init__" qn (eArgs f p1 p2) (eBody f msg a1 a2 a3 a4 a5 a6 b1 b2 b3 b4) (eScope f) .none .none doc pm an (.ref cda) ct cc) (body := eBody f msg a1 a2 a3 a4 a5 a6 b1 b2 b3 b4) (binds := [(("self" : Str), Value.ref y), (f, v)]) hroom (X _ _ ho) rfl hlim (codeRec_of X hcd) rfl (BindsTo.of_eq (hB _ _)) ?_ ?_ (fun h₁ hns k => ?_) rfl rfl rfl
  · intro z hz
    rcases List.mem_cons.mp hz with rfl | hz
    · exact fun e => nomatch e
    rcases List.mem_cons.mp hz with rfl | hz
    · exact fun e => nomatch e
    rcases List.mem_cons.mp hz with rfl | hz
    · exact fun e => nomatch e
    rcases List.mem_cons.mp hz with rfl | hz
    · exact fun e => nomatch e
    · cases hz
  · intro z hz
    rcases List.mem_cons.mp hz with rfl | hz
    · exact look_self f
    rcases List.mem_cons.mp hz with rfl | hz
    · exact look_f hf1
    · cases hz
  · have X₁ : K.In h₁ := X.keeps k
    have hyL : s.heap.objs.size ≠ y := Nat.ne_of_gt (Heap.lt_size hx)
    have ks : (callEnv (ksFn "__init__" qn (eArgs f p1 p2) (eBody f msg a1 a2 a3 a4 a5 a6 b1 b2 b3 b4) (eScope f) .none .none doc pm an (.ref cda) ct cc) s.heap.objs.size fI).kindOf "super" = some .globalImplicit := look_super hf3
    obtain ⟨oD, hD⟩ : ∃ oD, h₁.get? C = some oD ∧ ∃ cd : ClassData, oD.data = .cls cd := ⟨_, X₁ _ _ hC, _, rfl⟩
    obtain ⟨hD1, cdD, hD2⟩ := hD
    have IY : ∀ {h : Heap}, h.get? y = some (excO C t0) → InstAt h y (excO C t0) C none := fun e => ⟨e, rfl, rfl, trivial⟩
    have hyC : y ≠ C := fun z => by rw [z, hC] at hnx; cases hnx
    obtain ⟨pl, hpl⟩ := hS s.heap.objs.size
    refine ks_wpAt_execs_cons (ks_wpAt_Expr_any (ks_wpAt_MethodCall ?_ hpl) (by rfl) (by rfl))
    refine ks_wpAt_super_base ks (look_cls hf2) (by decide +kernel) rfl (X₁ _ _ ho) rfl rfl rfl (X₁ _ _ hcda) rfl hvs hfile T.top ?_
    refine ks_loadName_global rfl ks (loadGlobal_builtin (hg.keeps k) T.su (hbn.keeps k) (hbv _ (by decide +kernel)) ⟨by rfl, ?_⟩)
    refine wpAny_loadName_free rfl (look_cls hf2) rfl ⟨_, X₁ _ _ hcell, rfl⟩ ?_
    refine wpAny_loadName_local rfl (look_self f) hns (bl_self hf1 _ _) ?_
    refine ks_wpAny_isType_cls hD1 hD2 ⟨rfl, ?_⟩
    refine ks_wpAny_call_super hD1 hD2 (k _ _ hx) rfl (fun c e => nomatch e) (looks_mroIn X₁ T.mC) (fun h2 hso k2 => ?_)
    have X2 : K.In h2 := X₁.keeps k2
    refine kxs_getMethod kxs_ValueError hso (looks_opaque X2 T.ho) (l₀ := .ref C :: bm) ((looks_clsIn X2 hcl).andThen .now) rfl X2 ?_ ((IY (k2 _ _ (k _ _ hx))).type.andThen (looks_subIn X2 T.hB)) hyC (by decide +kernel) ?_
    · have e := T.si
      unfold ks_superIn at e
      rw [hcl] at e
      exact e
    have k3 : ∀ b o, h2.get? b = some o → (h2.push (kxs_mw "ValueError.__init__" y)).get? b = some o := fun b o e => Heap.get?_push_of_some _ e
    have hu : (h2.push (kxs_mw "ValueError.__init__" y)).get? h2.objs.size = some (kxs_mw "ValueError.__init__" y) := Heap.get?_push_at rfl rfl
    refine kxs_callWith (i := "ValueError.__init__") (x := y) (by rfl) (evalArgs_plain (Calls.spliced_cons (Calls.Constant_str (k := 0) (pos := a4) (Calls.spliced_nil ⟨hu, ?_⟩))))
    refine call_mw (X2.keeps k3 _ _ hC) (k3 _ _ (k2 _ _ (k _ _ hx))) hu (one_size _) fun h4 t1 k4 hy4 => ?_
    have X4 : K.In h4 := kept_but (X2.keeps k3) hnx k4
    have kk : ∀ b o, b ≠ y → h₁.get? b = some o → h4.get? b = some o := fun b o n e => k4 b o n (k3 b o (k2 b o e))
    have n4 : h4.Ns s.heap.objs.size fun z => [(("self" : Str), Value.ref y), (f, v)].reverse.lookup z := by
      obtain ⟨o, es, ep, e1, r⟩ := hns
      exact ⟨o, es, ep, kk _ _ hyL e1, r⟩
    have hfd : (f == ("__debug__" : Str)) = false := by simpa using hf4
    refine wpAt_of_wpAny (wpAny_execs_cons (plainObj_wpAny_Assign_Attribute ?_))
    refine wpAny_Name (wpAny_loadName_local rfl (look_f hf1) n4 (bl_f _ _) ?_) hfd
    refine wpAny_Name (wpAny_loadName_local rfl (look_self f) n4 (bl_self hf1 _ _) ?_) (by decide +kernel)
    refine set_plain X4 (ox := excO C t1) (od := none) ⟨hy4, rfl, rfl, trivial⟩ T.sa ?_
    refine exc_osa X4 hy4 hcl (show refsVE (.ref C :: bm) = true from hbm) rfl T.noN (fun h5 tk5 dx k5 dn dne hx5 hn5 => ?_)
    refine wpAny_execs_nil (hq h5 tk5 dx ⟨fun b o hb e => k5 b o hb (kk b o hb (k b o e)), ⟨_, hx5⟩, ?_, dne, hn5⟩)
    have z1 : s.heap.objs.size < h4.objs.size := n4.lt
    exact Nat.le_of_lt (Nat.lt_of_lt_of_le z1 dn)
/-- an error that was made: the object at e, its own dict at d -/
structure MadeE (h h' : Heap) (e C d : Addr) (f : Str) (v : Value) : Prop where
  keep : ∀ b o, h.get? b = some o → h'.get? b = some o
  new : h.objs.size ≤ e
  obj : ∃ t1 : Addr, h'.get? e = some { cls := .ref C, dict := some d, data := .fields #[.ref t1, .none, .none, .none, .bool false, .none] }
  dbig : h.objs.size ≤ d
  dne : d ≠ e
  ns : h'.Ns1 d (fun z => if z = f then some v else none)
theorem not_in {K : Frag} {h : Heap} {a : Addr} (X : K.In h) (ha : h.objs.size ≤ a) : K.lookup a = none := by
  cases e : K.lookup a with
  | none => rfl
  | some o => exact absurd (Nat.lt_of_lt_of_le (Heap.lt_size (X _ _ e)) ha) (Nat.lt_irrefl _)
theorem err_made (T : ErrTxt prog K mg x f C fI) {v : Value} (X : K.In s.heap) (hlim : s.heap.NoLimit) (hg : s.heap.Ns mainGlobals mg) (hb : ∃ mb, s.heap.Ns builtinsNs mb ∧ ∀ z : Str, z ≠ "__name__" → mb z = bootBuiltins z)
    (hroom : A.depth + 1 < recursionLimit) (hq : ∀ h' tk e d, MadeE s.heap h' e C d f v → R (.ok (.ret (.ref e))) { s with heap := h', toks := tk }) :
    codeAny (model prog w) A (.call (.ref C) ⟨[v], []⟩) R s := by
  obtain ⟨nm, q, N, bs, bm, sn, sub, ab, col, dd, k0, k1, k2, k3, k5, hC, hbm⟩ := T.cls
  obtain ⟨mb, hbn, hbv⟩ := hb
  obtain ⟨hp, g, dr, tk, os⟩ := s
  have k : ∀ b o, hp.get? b = some o → ((hp.push (kdv_tup [v])).push (excO C hp.objs.size)).get? b = some o := fun b o e => Heap.get?_push_of_some _ (Heap.get?_push_of_some _ e)
  have hget : ((hp.push (kdv_tup [v])).push (excO C hp.objs.size)).get? (hp.objs.size + 1) = some (excO C hp.objs.size) := by heap_get
  have hnx : K.lookup (hp.objs.size + 1) = none := not_in X (Nat.le_succ _)
  refine call_own F.excBase_ValueError (fun X => refsVE_contains X bm hbm) (X _ _ hC) (looks_findIn X T.iC) (fun self => bind_fn X self T.tC) (one_size v) ?_
  refine err_init (s := ⟨(hp.push (kdv_tup [v])).push (excO C hp.objs.size), g, dr, tk, os⟩) T (X.keeps k) (hlim.keeps k) (hg.keeps k) ⟨mb, hbn.keeps k, hbv⟩ hget hnx ?_ fun h' tk' dx ⟨k', ⟨t1, hx⟩, dn, dne, hns⟩ => ?_
  · show A.depth + 1 < recursionLimit
    exact hroom
  · have old : ∀ b o, hp.get? b = some o → h'.get? b = some o := fun b o e => k' b o (Nat.ne_of_lt (Nat.lt_succ_of_lt (Heap.lt_size e))) (k b o e)
    have z : hp.objs.size + 1 + 1 ≤ dx := by
      have q := dn
      rw [Heap.size_push, Heap.size_push] at q
      exact q
    exact ⟨rfl, hq h' tk' (hp.objs.size + 1) dx ⟨old, Nat.le_succ _, ⟨t1, hx⟩, Nat.le_trans (Nat.le_trans (Nat.le_succ _) (Nat.le_succ _)) z, dne, hns⟩⟩
end
end EK
namespace L2
open PySem PySem.Spec PyProof.Rows EK
theorem relO_one {f : Str} {v : V} {u : Value} (r : RelV v u) (g : Str) : RelO (List.lookup g [(f, v)]) (if g = f then some u else none) := relO_put (fs := []) (mA := fun _ => none) r (fun _ => True.intro) g
section
variable {X : Cx} {C fI : Addr} {x f : Str}
/-- x(e) as a value: a new error at a, its dict at d -/
def tErrV (C : Addr) (f : Str) (ta : TA) : TE := fun σ H Q => ta σ H fun vs H1 => ∃ v, vs = [v] ∧ ∀ a d, H1 a = none → H1 d = none → d ≠ a → Q (.ref a) (upd (upd H1 d (exd d [(f, v)])) a (exo a C (some d)))
theorem pe_errV {a : Expr} {ta : TA} {p pos : Pos} {k : Nat} (T : ErrTxt X.prog X.K X.mg x f C fI) (hr : Room k X.A) (ha : PA X [a] ta) (hg : Gl X x) (hd : (x == ("__debug__" : Str)) = false := by decide)
    (he : starEach (a :: []) X.env = (false, eval a X.env) :: starEach [] X.env := by rfl) (hpl : (backTo pos (starEach [] X.env)).any (·.1) = false := by rfl) :
    PE X (.Call (.Name x p) [a] [] pos) (tErrV C f ta) := by
  refine ⟨fun pins s σ H Q I h => ?_⟩
  refine wpAny_Call_Name_kw (ld_glob I hg T.gC ?_ hd)
  refine PySem.W.callWith_K (h₀ := X.base) I.ok.mod.kin T.kC (thn (ha.run pos pins s σ H _ I h) fun us s1 hh => ?_) he hpl
  obtain ⟨vs, H1, I1, r1, v, ev, q1⟩ := hh
  subst ev
  refine ⟨I1.kIn, ?_⟩
  cases r1 with
  | cons rv rn =>
    rename_i v' us'
    cases rn
    show wpAny _ _ (call (.ref C) [v']) _ _ _
    have hlim := I1.nolimit
    obtain ⟨hp, g, dr, tk, os⟩ := s1
    obtain ⟨mb, hb1, hb2⟩ := I1.mod.blt
    refine wpAny_call (err_made T I1.kIn hlim (I1.mod.glob.keeps I1.bk) ⟨mb, hb1.keeps I1.bk, hb2⟩ (by have := hr.dp; omega) fun h' tk' e d M => ?_)
    obtain ⟨t1, hoe⟩ := M.obj
    have nd : H1 d = none := I1.hok.fresh M.dbig
    have ne : H1 e = none := I1.hok.fresh M.new
    obtain ⟨G, g1, g2⟩ := restrict h' fun b => decide (b ≠ e)
    have gk : ∀ b, b ≠ e → G.get? b = h'.get? b := fun b hb => g1 b (decide_eq_true hb)
    have ge : G.get? e = none := g2 e (by simp)
    have old : ∀ b o, hp.get? b = some o → G.get? b = some o := fun b o q => (gk b (Nat.ne_of_lt (Nat.lt_of_lt_of_le (Heap.lt_size q) M.new))).trans (M.keep b o q)
    have gs : ∀ b o, G.get? b = some o → h'.get? b = some o := fun b o q => by
      by_cases hbe : b = e
      · rw [hbe, ge] at q
        cases q
      · exact (gk b hbe).symm.trans q
    have J : Inv X pins σ (upd H1 d (exd d [(f, v)])) ⟨G, g, dr, tk', os⟩ := I1.laid (t' := tk') old M.dbig (exd_ok (M.ns.at fun o q => (gk d M.dne).trans q) (relO_one rv))
    have hne : (upd H1 d (exd d [(f, v)])) e = none := by
      rw [upd_ne (Ne.symm M.dne)]
      exact ne
    exact ⟨.ref e, _, J.laidN (t' := tk') gs ge hne (exo_ok hoe), rfl, q1 e d ne nd M.dne⟩
/-- a field of an error, read -/
def tErrF (K : PySem.W.Frag) (f : Str) (te : TE) : TE := fun σ H Q => te σ H fun x H1 => ∃ (a C d : Addr) (fs : List (Str × V)) (v : V), x = .ref a ∧ H1 a = some (exo a C (some d)) ∧ H1 d = some (exd d fs) ∧ XfC K C ∧ PySem.W.findIn K (.ref C) f = some none ∧ fs.lookup f = some v ∧ Q v H1
theorem pe_errF {e : Expr} {te : TE} {pos : Pos} (he : PE X e te) (hb : attributeBase e f X.env (eval e X.env) = eval e X.env := by rfl) : PE X (.Attribute e f pos) (tErrF X.K f te) := by
  refine ⟨fun pins s σ H Q I h => ?_⟩
  refine attr_of hb (thn (he.run pins s σ H _ I h) fun u s1 hh => ?_)
  obtain ⟨y, H1, I1, ry, a, C, d, fs, v, ey, ea, ed, T, hno, l, q⟩ := hh
  subst ey
  obtain rfl : u = Value.ref a := ry
  obtain ⟨t1, ha⟩ := exo_at I1.hok ea
  obtain ⟨mA, hns, hr⟩ := exd_at I1.hok ed
  obtain ⟨od, ho, hl⟩ := lookIn_ns hns
  obtain ⟨u, hu, ru⟩ := RelO.some_of (v := v) (o := mA f) (by rw [← l]; exact hr f)
  have J : PySem.W.InstAt s1.heap a _ C (some od) := ⟨ha, rfl, rfl, ho⟩
  exact HandSPX.exc_get I1.kIn J T.ga T.gg T.exC (PySem.W.findObj_own T.hdC hno rfl (by rw [hl, hu])) (handed_of ru) ⟨v, H1, I1.tok _, ru, q⟩
end
end L2

set_option Elab.async false
set_option linter.all false
set_option maxRecDepth 100000
set_option maxHeartbeats 4000000
/-! EqKit: things that are told equal, whatever they hold; isinstance of errors. -/
namespace L2
open PySem PySem.Spec PyProof.Rows
/-- x and y compare equal, at most n deep: one thing, or lists, tuples of such -/
inductive Sm (K : PySem.W.Frag) (H : Hp) : Nat → V → V → Prop
  | rf {n : Nat} (x : V) (h : ∀ b, x ≠ .flt b) : Sm K H n x x
  | ls {n : Nat} {a b : Addr} {xs ys : List V} (h1 : SqL K H a xs) (h2 : SqL K H b ys) (hl : xs.length = ys.length) (h : ∀ (i : Nat) x y, xs[i]? = some x → ys[i]? = some y → Sm K H n x y) : Sm K H (n + 1) (.ref a) (.ref b)
  | tp {n : Nat} {a b : Addr} {xs ys : List V} (h1 : SqT K H a xs) (h2 : SqT K H b ys) (hl : xs.length = ys.length) (h : ∀ (i : Nat) x y, xs[i]? = some x → ys[i]? = some y → Sm K H n x y) : Sm K H (n + 1) (.ref a) (.ref b)
section
variable {X : Cx} {pins : List (Addr × Obj)} {σ : St} {H : Hp} {s : Shared}
theorem sm_items {xs ys : List V} {us vs : List Value} {A : Around} (rx : Vals xs us) (ry : Vals ys vs)
    (h : ∀ (i : Nat) x y, xs[i]? = some x → ys[i]? = some y → ∀ u v, RelV x u → RelV y v → SeqAt.EqAt A s u v true) :
    ∀ j (h1 : j < us.toArray.size) (h2 : j < vs.toArray.size), SeqAt.EqAt A s us.toArray[j] vs.toArray[j] true := by
  intro j h1 h2
  have l1 := rx.length
  have l2 := ry.length
  have j1 : j < xs.length := by rw [l1]; simpa using h1
  have j2 : j < ys.length := by rw [l2]; simpa using h2
  obtain ⟨u, e1, r1⟩ := rx.get (List.getElem?_eq_getElem j1)
  obtain ⟨v, e2, r2⟩ := ry.get (List.getElem?_eq_getElem j2)
  have f1 : us.toArray[j] = u := by
    have q : us[j]? = some (us[j]'(by simpa using h1)) := List.getElem?_eq_getElem _
    rw [e1] at q
    simpa using (Option.some.inj q).symm
  have f2 : vs.toArray[j] = v := by
    have q : vs[j]? = some (vs[j]'(by simpa using h2)) := List.getElem?_eq_getElem _
    rw [e2] at q
    simpa using (Option.some.inj q).symm
  rw [f1, f2]
  exact h j _ _ (List.getElem?_eq_getElem j1) (List.getElem?_eq_getElem j2) u v r1 r2
theorem all_true {n : Nat} : ((List.range n).all fun _ => true) = true := by
  induction n with
  | zero => rfl
  | succ n ih => simp
theorem sm_at (I : Inv X pins σ H s) : ∀ {n : Nat} {x y : V} {u v : Value} {A : Around}, Sm X.K H n x y → RelV x u → RelV y v → A.units + n < cLine → SeqAt.EqAt A s u v true := by
  intro n x y u v A h
  induction h generalizing u v A with
  | rf x hf =>
    intro r1 r2 _
    cases x with
    | non => cases r1; cases r2; exact .same _
    | bl b => cases r1; cases r2; exact .same _
    | int i =>
      obtain ⟨t, rfl⟩ := r1
      obtain ⟨t', rfl⟩ := r2
      have q := SeqAt.EqAt.int_int (A := A) (s := s) i t i t'
      rw [beq_self_eq_true] at q
      exact q
    | str z =>
      obtain ⟨t, rfl⟩ := r1
      obtain ⟨t', rfl⟩ := r2
      have q := SeqAt.EqAt.str_str (A := A) (s := s) z t z t'
      rw [beq_self_eq_true] at q
      exact q
    | byt b =>
      obtain ⟨t, rfl⟩ := (show ∃ t, u = Value.bytes b t from r1)
      obtain ⟨t', rfl⟩ := (show ∃ t, v = Value.bytes b t from r2)
      exact fun prog w E Q h => PySem.W.eqBool_bytes (by simpa using h)
    | flt b => exact absurd rfl (hf b)
    | ref a => cases r1; cases r2; exact .same _
    | ty n => cases r1; cases r2; exact .same _
  | @ls n a b xs ys h1 h2 hl _ ih =>
    intro r1 r2 hu
    cases r1; cases r2
    by_cases e : a = b
    · rw [e]; exact .same _
    · obtain ⟨us, ru, ⟨o, m, ho, hc, _, hd⟩, _⟩ := I.list h1
      obtain ⟨vs, rv, ⟨o', m', ho', hc', _, hd'⟩, _⟩ := I.list h2
      have hs : us.toArray.size = vs.toArray.size := by simp only [List.size_toArray]; rw [← ru.length, ← rv.length, hl]
      refine .of_refs e ?_
      have q := SeqAt.RcAt.lists (A := A) (s := s) (e := fun _ => true) ⟨o, ho, hc, m, hd⟩ ⟨o', ho', hc', m', hd'⟩ hs (by omega) (sm_items (A := A.in1) ru rv fun i x y e1 e2 u v s1 s2 => ih i x y e1 e2 s1 s2 (by show A.units + 1 + n < cLine; omega))
      rw [all_true] at q
      exact q
  | @tp n a b xs ys h1 h2 hl _ ih =>
    intro r1 r2 hu
    cases r1; cases r2
    by_cases e : a = b
    · rw [e]; exact .same _
    · obtain ⟨us, ru, ⟨o, ho, hc, m, hd⟩, _⟩ := I.tuple h1
      obtain ⟨vs, rv, ⟨o', ho', hc', m', hd'⟩, _⟩ := I.tuple h2
      have hs : us.toArray.size = vs.toArray.size := by simp only [List.size_toArray]; rw [← ru.length, ← rv.length, hl]
      refine .of_refs e ?_
      have q := SeqAt.RcAt.tuples (A := A) (s := s) (e := fun _ => true) ⟨o, ho, hc, m, hd⟩ ⟨o', ho', hc', m', hd'⟩ (by omega) (sm_items (A := A.in1) ru rv fun i x y e1 e2 u v s1 s2 => ih i x y e1 e2 s1 s2 (by show A.units + 1 + n < cLine; omega))
      rw [all_true, hs, beq_self_eq_true] at q
      exact q
/-- what may stand on both sides of a comparison that is told equal -/
inductive SmT (K : PySem.W.Frag) (H : Hp) : V → V → Prop
  | sc (x : V) (h : scal x x = true) : SmT K H x x
  | ls {a b : Addr} {xs ys : List V} (h1 : SqL K H a xs) (h2 : SqL K H b ys) (hl : xs.length = ys.length) (h : ∀ (i : Nat) x y, xs[i]? = some x → ys[i]? = some y → Sm K H 60 x y) : SmT K H (.ref a) (.ref b)
  | tp {a b : Addr} {xs ys : List V} (h1 : SqT K H a xs) (h2 : SqT K H b ys) (hl : xs.length = ys.length) (h : ∀ (i : Nat) x y, xs[i]? = some x → ys[i]? = some y → Sm K H 60 x y) : SmT K H (.ref a) (.ref b)
  | dk {a b : Addr} {kvs : List (Key × V)} (h1 : H a = some (.dK kvs)) (h2 : H b = some (.dK kvs)) (nd : (kvs.map (·.1)).Nodup) (fl : ∀ p ∈ kvs, flatB p.2 = true) : SmT K H (.ref a) (.ref b)
theorem op_neS (hu : X.A.units + 64 < cLine) : OpR X (compareOp .NotEq) (fun x y H Q => SmT X.K H x y ∧ Q (.bl false) H) := by
  intro pins s σ H x y v u Q I rx ry ⟨h, q⟩
  cases h with
  | sc x h => exact op_ne pins s σ H x x v u Q I rx ry ⟨h, by rw [decide_eq_true rfl]; exact q⟩
  | ls h1 h2 hl h =>
    cases rx; cases ry
    obtain ⟨us, ru, ⟨o, m, ho, hc, _, hd⟩, _⟩ := I.list h1
    obtain ⟨vs, rv, ⟨o', m', ho', hc', _, hd'⟩, _⟩ := I.list h2
    have hs : us.toArray.size = vs.toArray.size := by simp only [List.size_toArray]; rw [← ru.length, ← rv.length, hl]
    have z := SeqAt.RcNeAt.lists (A := X.A) (s := s) (e := fun _ => true) ⟨o, ho, hc, m, hd⟩ ⟨o', ho', hc', m', hd'⟩ hs (by omega) (sm_items (A := X.A.in1) ru rv fun i x y e1 e2 u v s1 s2 => sm_at I (h i x y e1 e2) s1 s2 (by show X.A.units + 1 + 60 < cLine; omega))
    rw [all_true] at z
    exact z X.prog X.w _ _ ⟨.bl false, H, I, rfl, q⟩
  | tp h1 h2 hl h =>
    cases rx; cases ry
    obtain ⟨us, ru, ⟨o, ho, hc, m, hd⟩, _⟩ := I.tuple h1
    obtain ⟨vs, rv, ⟨o', ho', hc', m', hd'⟩, _⟩ := I.tuple h2
    have hs : us.toArray.size = vs.toArray.size := by simp only [List.size_toArray]; rw [← ru.length, ← rv.length, hl]
    have z := SeqAt.RcNeAt.tuples (A := X.A) (s := s) (e := fun _ => true) ⟨o, ho, hc, m, hd⟩ ⟨o', ho', hc', m', hd'⟩ (by omega) (sm_items (A := X.A.in1) ru rv fun i x y e1 e2 u v s1 s2 => sm_at I (h i x y e1 e2) s1 s2 (by show X.A.units + 1 + 60 < cLine; omega))
    rw [all_true, hs, beq_self_eq_true] at z
    exact z X.prog X.w _ _ ⟨.bl false, H, I, rfl, q⟩
  | @dk a b kvs h1 h2 nd fl =>
    cases rx; cases ry
    obtain ⟨_, ya, va, ra, da⟩ := (show ObjOk X.prog X.w H s.heap a (.dK kvs) from I.hok a _ h1)
    obtain ⟨_, yb, vb, rb, db⟩ := (show ObjOk X.prog X.w H s.heap b (.dK kvs) from I.hok b _ h2)
    have hl : va.length = vb.length := ra.length.symm.trans rb.length
    exact PySem.W.keq_ne (knd := mixKind X.prog X.w) (r := true) ya yb da db (by omega) (fun _ => hits_all rb ra fun p hp => ⟨val_nodup nd p hp, fl p hp⟩) (fin_bl I q (by simp [hl]))
theorem op_eqS (hu : X.A.units + 64 < cLine) : OpR X (compareOp .Eq) (fun x y H Q => SmT X.K H x y ∧ Q (.bl true) H) := by
  intro pins s σ H x y v u Q I rx ry ⟨h, q⟩
  cases h with
  | sc x h => exact op_eq pins s σ H x x v u Q I rx ry ⟨h, by rw [decide_eq_true rfl]; exact q⟩
  | ls h1 h2 hl h =>
    cases rx; cases ry
    obtain ⟨us, ru, ⟨o, m, ho, hc, _, hd⟩, _⟩ := I.list h1
    obtain ⟨vs, rv, ⟨o', m', ho', hc', _, hd'⟩, _⟩ := I.list h2
    have hs : us.toArray.size = vs.toArray.size := by simp only [List.size_toArray]; rw [← ru.length, ← rv.length, hl]
    have z := SeqAt.RcAt.lists (A := X.A) (s := s) (e := fun _ => true) ⟨o, ho, hc, m, hd⟩ ⟨o', ho', hc', m', hd'⟩ hs (by omega) (sm_items (A := X.A.in1) ru rv fun i x y e1 e2 u v s1 s2 => sm_at I (h i x y e1 e2) s1 s2 (by show X.A.units + 1 + 60 < cLine; omega))
    rw [all_true] at z
    exact z X.prog X.w _ _ ⟨.bl true, H, I, rfl, q⟩
  | tp h1 h2 hl h =>
    cases rx; cases ry
    obtain ⟨us, ru, ⟨o, ho, hc, m, hd⟩, _⟩ := I.tuple h1
    obtain ⟨vs, rv, ⟨o', ho', hc', m', hd'⟩, _⟩ := I.tuple h2
    have hs : us.toArray.size = vs.toArray.size := by simp only [List.size_toArray]; rw [← ru.length, ← rv.length, hl]
    have z := SeqAt.RcAt.tuples (A := X.A) (s := s) (e := fun _ => true) ⟨o, ho, hc, m, hd⟩ ⟨o', ho', hc', m', hd'⟩ (by omega) (sm_items (A := X.A.in1) ru rv fun i x y e1 e2 u v s1 s2 => sm_at I (h i x y e1 e2) s1 s2 (by show X.A.units + 1 + 60 < cLine; omega))
    rw [all_true, hs, beq_self_eq_true] at z
    exact z X.prog X.w _ _ ⟨.bl true, H, I, rfl, q⟩
  | @dk a b kvs h1 h2 nd fl =>
    exact op_eq_dict (by omega) pins s σ H _ _ v u Q I rx ry ⟨a, b, kvs, rfl, rfl, h1, h2, nd, fl, q⟩
/-- isinstance(e, c), e an error that is held as a value -/
def rIsErr (K : PySem.W.Frag) : List V → Hp → VK → Prop := fun xs H Q => ∃ (a C : Addr) (d : Option Addr) (fs : List (Str × V)) (c : V) (u : Value) (b : Bool), xs = [.ref a, c] ∧ H a = some (exo a C d) ∧ (∀ dd, d = some dd → H dd = some (exd dd fs)) ∧ ExcC K C ∧ ClsV c u ∧ PySem.W.kitOne K (.ref C) u = some b ∧ Q (.bl b) H
theorem call_isErr : CallR X (.builtin "isinstance") (rIsErr X.K) := by
  intro pins s σ H xs us Q I r h
  obtain ⟨a, C, d, fs, c, u, b, rfl, ea, ed, T, k, e, q⟩ := h
  obtain ⟨u1, u2, rfl, r1, r2⟩ := vals2 r
  have e2 := k.eq r2
  subst e2
  cases r1
  obtain ⟨t1, ha⟩ := exo_at I.hok ea
  have hcl : (PySem.W.clsIn X.K C).isSome = true := by
    obtain ⟨cd, hc, _⟩ := PySem.W.any_some T.hd
    rw [hc]
    rfl
  cases d with
  | none => exact PySem.W.kia_one (PySem.W.kitx_exc (od := none) hcl T.hg T.hk T.hs T.ha T.hn T.ht T.hm) I.kIn (show PySem.W.InstAt s.heap a _ C none from ⟨ha, rfl, rfl, trivial⟩) e (fun z => nomatch z) fun tk => ⟨.bl b, H, I.tok tk, rfl, q⟩
  | some dd =>
    obtain ⟨mA, ⟨od, es, ep, ho, hr⟩, _⟩ := exd_at I.hok (ed dd rfl)
    exact PySem.W.kia_one (PySem.W.kitx_exc (od := some od) hcl T.hg T.hk T.hs T.ha T.hn T.ht T.hm) I.kIn (show PySem.W.InstAt s.heap a _ C (some od) from ⟨ha, rfl, rfl, ho⟩) e (fun z => nomatch z) fun tk => ⟨.bl b, H, I.tok tk, rfl, q⟩
end
end L2

set_option Elab.async false
set_option linter.all false
set_option maxRecDepth 100000
set_option maxHeartbeats 4000000
namespace T74
open PySem L2
def top (i : Nat) : Stmt := PySem.Challenge.pw_turnindex_k74_refused_absent_words.main.body.getD i (.Pass ⟨0, 0, 0, 0⟩)
abbrev sWell : Stmt := top 32
abbrev sDraw : Stmt := top 33
abbrev sOne : Stmt := top 34
/-- a well of draws: its own digits left, its number, how often it was asked -/
def WellAt (H : Hp) (a : Addr) (n : Int) : Prop := ∃ w0 w1 w2 : Int, H a = some (.lst [.int w0, .int w1, .int w2]) ∧ 0 ≤ w1 ∧ w1 < 2147483647 ∧ 0 ≤ w2 ∧ w2 ≤ n
def KeepB (a : Addr) (H H' : Hp) : Prop := ∀ b o, H b = some o → b ≠ a → H' b = some o
def spWell : Sp := fun vs H Q _ => ∃ c : Int, vs = [.int c] ∧ ∀ p H', H p = none → WellAt H' p 0 → Same H H' → Q (.ref p) H'
def spDraw : Sp := fun vs H Q _ => ∃ (a : Addr) (m n : Int), vs = [.ref a, .int m] ∧ WellAt H a n ∧ n ≤ 1000000 ∧ 0 < m ∧ m < 1073741824 ∧ ∀ (d : Int) H', 0 ≤ d → d < m → WellAt H' a (n + 1) → KeepB a H H' → Q (.int d) H'
structure TxtD (K : PySem.W.Frag) (mg : Str → Option Value) : Prop where
  int : mg "int" = none
  len : mg "len" = none
section
variable {P : Program} {w : World} {K : PySem.W.Frag} {mg : Str → Option Value} {base : Heap}
theorem scWell : FnScope ["_law_cell"] ["_law_cell"] (defScope sWell) := ⟨rfl, rfl, rfl, by decide +kernel, rfl, by decide +kernel, by decide +kernel⟩
theorem ok_well {f : Addr} {fd : FuncData} (F : Fun K "_law_well" "_law_well" sWell f fd) (T : TxtD K mg) : FnOk P w K mg base CX0 1 f fd ["_law_cell"] spWell := by
  refine F.ok scWell (fun vs H Q E h => ?_) (fun cdv A outer s H vs Q E hr h => ?_)
  · obtain ⟨c, rfl, _⟩ := h
    rfl
  · obtain ⟨c, rfl, k⟩ := h
    refine ⟨_, pss_one (ps_ret (pe_lst (pa_cons (pe_op op_mul (pv 0) (pe_callTy call_int1 (by rfl) T.int (by decide +kernel) (pa_cons (pe_cmpR op_ge (pv 0) (pe_op op_pow pe_int pe_int) (nomark _)) pa_nil)))
      (pa_cons (pe_op op_mod (pe_callTy call_int1 (by rfl) T.int (by decide +kernel) (pa_cons (pv 0) pa_nil)) pe_int) (pa_cons pe_int pa_nil))))), ?_⟩
    refine ⟨_, rfl, _, rfl, _, _, rfl, rfl, ⟨by decide, by decide, by decide⟩, _, _, rfl, rfl, .inr ⟨_, rfl, _, _, rfl, rfl, .inr ?_, ?_⟩⟩
    · by_cases h : (10 : Int) ^ (18 : Int).toNat ≤ c
      · rw [decide_eq_true h]; decide
      · rw [decide_eq_false h]; decide
    refine ⟨_, rfl, .inl ⟨_, rfl, _, _, rfl, rfl, (by show (0 : Int) < 2147483629; decide), (by show 3 ≤ sizeLine; decide), fun p hp => ?_⟩⟩
    refine k p _ hp ⟨_, _, _, upd_same, Int.emod_nonneg _ (by decide), Int.lt_trans (Int.emod_lt_of_pos _ (by decide)) (by decide : (2147483629 : Int) < 2147483647), by decide, by decide⟩ fun b o e => ?_
    rw [upd_ne (ne_of_none e hp)]
    exact e
theorem scDraw : FnScope ["_law_well_here", "_law_many", "_law_digit", "_law_number"] ["_law_well_here", "_law_many"] (defScope sDraw) := ⟨rfl, rfl, rfl, by decide +kernel, rfl, by decide +kernel, by decide +kernel⟩
theorem ok_draw {f : Addr} {fd : FuncData} (F : Fun K "_law_draw" "_law_draw" sDraw f fd) (T : TxtD K mg) : FnOk P w K mg base CX0 1 f fd ["_law_well_here", "_law_many"] spDraw := by
  refine F.ok scDraw (fun vs H Q E h => ?_) (fun cdv A outer s H vs Q E hr h => ?_)
  · obtain ⟨a, m, n, rfl, _⟩ := h
    rfl
  · obtain ⟨a, m, n, rfl, ⟨w0, w1, w2, ha, h1, h2, h3, h4⟩, hn, hm, hm2, k⟩ := h
    have nd := scDraw.nd
    refine ⟨_, (pss_cons (ps_if (pt_cmpR op_gt (pe_ix ix_list (pv 0) pe_int (fun _ _ => rfl)) pe_int (nomark _)) (pss_cons (ps_set (i := 2) nd rfl (Or.inl rfl) (pe_op op_mod (pe_callTy call_int1 (by rfl) T.int (by decide +kernel) (pa_cons (pe_ix ix_list (pv 0) pe_int (fun _ _ => rfl)) pa_nil)) (pv 1)))
      (pss_cons (ps_asg (pe_op op_fdiv (pe_ix ix_list (pv 0) pe_int (fun _ _ => rfl)) (pv 1)) (pg_sub (pv 0) pe_int set_list))
      (pss_one (ps_ret (pv 2))))) pss_nil)
      (pss_cons (ps_asg (pe_op op_add (pe_ix ix_list (pv 0) pe_int (fun _ _ => rfl)) pe_int) (pg_sub (pv 0) pe_int set_list))
      (pss_cons (ps_set (i := 3) nd rfl (Or.inl rfl) (pe_op op_mod (pe_callTy call_int1 (by rfl) T.int (by decide +kernel) (pa_cons (pe_op op_pow (pe_op op_add (pe_op op_add (pe_ix ix_list (pv 0) pe_int (fun _ _ => rfl)) (pe_op op_mul pe_int (pe_ix ix_list (pv 0) pe_int (fun _ _ => rfl)))) pe_int) pe_int) pa_nil)) pe_int))
      (pss_cons (ps_set (i := 3) nd rfl (Or.inl rfl) (pe_op op_mod (pe_callTy call_int1 (by rfl) T.int (by decide +kernel) (pa_cons (pe_op op_add (pe_op op_mul (pv 3) (pe_op op_add (pe_op op_fdiv (pv 3) pe_int) pe_int)) (pe_ix ix_list (pv 0) pe_int (fun _ _ => rfl))) pa_nil)) pe_int))
      (pss_one (ps_ret (pe_op op_mod (pe_callTy call_int1 (by rfl) T.int (by decide +kernel) (pa_cons (pe_op op_fdiv (pe_op op_mod (pe_callTy call_int1 (by rfl) T.int (by decide +kernel) (pa_cons (pe_op op_mul (pv 3) (pe_op op_add (pe_op op_fdiv (pv 3) pe_int) pe_int)) pa_nil)) pe_int) pe_int) pa_nil)) (pv 1)))))))), ?_⟩
    refine ⟨_, rfl, a, _, 0, _, rfl, rfl, .of ha, rfl, _, _, rfl, rfl, _, rfl, ?_⟩
    refine ite2 (fun h0 => ?_) (fun h0 => ?_)
    · refine ⟨_, rfl, a, _, 0, _, rfl, rfl, .of ha, rfl, .inl ⟨_, rfl, _, rfl, _, _, rfl, rfl, hm, ?_⟩⟩
      refine ⟨_, rfl, a, _, 0, _, rfl, rfl, .of ha, rfl, _, rfl, _, _, rfl, rfl, ⟨hm, hm2⟩, _, rfl, a, _, 0, 0, rfl, rfl, ha, rfl, _, rfl, ?_⟩
      refine k _ _ (Int.emod_nonneg _ (by omega)) (Int.emod_lt_of_pos _ hm) ⟨_, _, _, upd_same, h1, h2, h3, by omega⟩ fun b o e n => ?_
      rw [upd_ne n]
      exact e
    · refine ⟨_, rfl, a, _, 2, _, rfl, rfl, .of ha, rfl, _, _, rfl, rfl, _, rfl, a, _, 2, 2, rfl, rfl, ha, rfl, ?_⟩
      obtain ⟨H1, e1, ha1, kb⟩ : ∃ H1, upd H a (.lst ([V.int w0, V.int w1, V.int w2].set 2 (V.int (w2 + 1)))) = H1 ∧ H1 a = some (.lst [.int w0, .int w1, .int (w2 + 1)]) ∧ KeepB a H H1 := ⟨_, rfl, upd_same, fun b o e n => by rw [upd_ne n]; exact e⟩
      simp only [e1]
      refine ⟨_, rfl, a, _, 1, _, rfl, rfl, .of ha1, rfl, _, rfl, a, _, 2, _, rfl, rfl, .of ha1, rfl, _, _, rfl, rfl, .inl ⟨by decide, by decide⟩, ?_⟩
      refine ⟨_, _, rfl, rfl, _, _, rfl, rfl, _, _, rfl, rfl, ⟨by decide, by decide, by omega⟩, .inl ⟨_, rfl, _, _, rfl, rfl, (by show (0 : Int) < 2147483647; decide), ?_⟩⟩
      have g0 := Int.emod_nonneg ((w1 + 6991 * (w2 + 1) + 3) ^ (5 : Int).toNat) (show (2147483647 : Int) ≠ 0 by decide)
      have g1 := Int.emod_lt_of_pos ((w1 + 6991 * (w2 + 1) + 3) ^ (5 : Int).toNat) (show (0 : Int) < 2147483647 by decide)
      obtain ⟨r, hr0⟩ : ∃ r, (w1 + 6991 * (w2 + 1) + 3) ^ (5 : Int).toNat % 2147483647 = r := ⟨_, rfl⟩
      show tSeq _ _ _ (List.set _ 3 (some (V.int ((w1 + 6991 * (w2 + 1) + 3) ^ (5 : Int).toNat % 2147483647)))) H1
      rw [hr0] at g0 g1 ⊢
      refine ⟨_, rfl, _, rfl, _, _, rfl, rfl, ⟨by decide, by decide⟩, _, _, rfl, rfl, _, _, rfl, rfl, .inl ⟨by omega, by omega⟩, ?_⟩
      refine ⟨_, rfl, a, _, 2, _, rfl, rfl, .of ha1, rfl, _, _, rfl, rfl, .inl ⟨_, rfl, _, _, rfl, rfl, (by show (0 : Int) < 2147483587; decide), ?_⟩⟩
      have g2 := Int.emod_nonneg (r * (r / 1013 + 48611) + (w2 + 1)) (show (2147483587 : Int) ≠ 0 by decide)
      have g3 := Int.emod_lt_of_pos (r * (r / 1013 + 48611) + (w2 + 1)) (show (0 : Int) < 2147483587 by decide)
      refine ⟨_, rfl, _, rfl, _, _, rfl, rfl, ⟨by decide, by decide⟩, _, _, rfl, rfl, _, _, rfl, rfl, .inl ⟨by omega, by omega⟩, .inl ⟨_, rfl, _, _, rfl, rfl, (by show (0 : Int) < 2147483563; decide), _, _, rfl, rfl, ⟨by decide, by decide⟩, .inl ⟨_, rfl, _, rfl, _, _, rfl, rfl, hm, ?_⟩⟩⟩
      exact k _ _ (Int.emod_nonneg _ (by omega)) (Int.emod_lt_of_pos _ hm) ⟨_, _, _, ha1, h1, h2, by omega, by omega⟩ kb

/-- one of a list of things -/
def spOne : Sp := fun vs H Q _ => ∃ (a l : Addr) (n : Int) (xs : List V), vs = [.ref a, .ref l] ∧ WellAt H a n ∧ n ≤ 1000000 ∧ H l = some (.lst xs) ∧ l ≠ a ∧ 0 < xs.length ∧ xs.length ≤ 1000 ∧ ∀ (x : V) H', x ∈ xs → WellAt H' a (n + 1) → KeepB a H H' → Q x H'
theorem scOne : FnScope ["_law_well_here", "_law_some"] ["_law_well_here", "_law_some"] (defScope sOne) := ⟨rfl, rfl, rfl, by decide +kernel, rfl, by decide +kernel, by decide +kernel⟩
theorem ok_one {f fD : Addr} {fd fdD : FuncData} (F : Fun K "_law_one" "_law_one" sOne f fd) (T : TxtD K mg) (FD : Fun K "_law_draw" "_law_draw" sDraw fD fdD) (gD : mg "_law_draw" = some (.ref fD)) (bD : Binds K fdD ["_law_well_here", "_law_many"] []) :
    FnOk P w K mg base CX0 2 f fd ["_law_well_here", "_law_some"] spOne := by
  have GD : FnOk P w K mg base CX0 1 fD fdD ["_law_well_here", "_law_many"] spDraw := ok_draw FD T
  refine F.ok scOne (fun vs H Q E h => ?_) (fun cdv A outer s H vs Q E hr h => ?_)
  · obtain ⟨a, l, n, xs, rfl, _⟩ := h
    rfl
  · obtain ⟨a, l, n, xs, rfl, hw, hn, hl, hla, h1, h2, k⟩ := h
    refine ⟨_, pss_one (ps_ret (pe_ix ix_list (pv 1) (pe_call GD hr rfl gD FD.kp bD .nil pass0 (pa_cons (pv 0) (pa_cons (pe_callB call_len_seq (by rfl) T.len PySem.boot_len (pa_cons (pv 1) pa_nil)) pa_nil))) (fun _ _ => rfl))), ?_⟩
    refine ⟨_, rfl, _, rfl, _, rfl, l, xs, rfl, .inl (.of hl), a, _, n, rfl, hw, hn, by omega, by omega, fun d H' hd hd2 hw' hk => ?_⟩
    obtain ⟨j, rfl⟩ : ∃ j : Nat, d = (j : Int) := ⟨d.toNat, by omega⟩
    have hj : j < xs.length := by omega
    refine ⟨l, xs, _, xs[j], rfl, rfl, .of (hk l _ hl hla), atI_nat (List.getElem?_eq_getElem hj), ?_⟩
    exact k _ _ (List.getElem_mem hj) hw' hk
end
end T74

set_option Elab.async false
set_option linter.all false
set_option maxRecDepth 100000
set_option maxHeartbeats 4000000
namespace L2
open PySem EK
theorem alloc {H : Hp} {p : Addr} {o : HO} (hp : H p = none) : ∃ H1, upd H p o = H1 ∧ Same H H1 ∧ H1 p = some o :=
  ⟨_, rfl, fun b u e => by rw [upd_ne (ne_of_none e hp)]; exact e, upd_same⟩
/-- an error of the class at C stands at a, its one value v -/
def ErrAt (H : Hp) (a d C : Addr) (f : Str) (v : V) : Prop := H a = some (exo a C (some d)) ∧ H d = some (exd d [(f, v)])
theorem ErrAt.keep {H H' : Hp} {a d C : Addr} {f : Str} {v : V} (e : ErrAt H a d C f v) (s : Same H H') : ErrAt H' a d C f v := ⟨s _ _ e.1, s _ _ e.2⟩
theorem alloc_err {H : Hp} {a d C : Addr} {f : Str} {v : V} (ha : H a = none) (hd : H d = none) (hne : d ≠ a) : ∃ H1, upd (upd H d (exd d [(f, v)])) a (exo a C (some d)) = H1 ∧ Same H H1 ∧ ErrAt H1 a d C f v :=
  ⟨_, rfl, fun b u e => by rw [upd_ne (ne_of_none e ha), upd_ne (ne_of_none e hd)]; exact e, upd_same, by rw [upd_ne hne, upd_same]⟩
theorem look1 (f : Str) (v : V) : List.lookup f [(f, v)] = some v := by rw [lookup_put, if_pos rfl]
theorem _root_.EK.ErrTxt.xf {P : Program} {K : PySem.W.Frag} {mg : Str → Option Value} {x f : Str} {C fI : Addr} (T : ErrTxt P K mg x f C fI) : XfC K C := ⟨T.ga, T.gg, T.exC, T.hdC⟩
end L2

set_option Elab.async false
set_option linter.all false
set_option maxRecDepth 100000
set_option maxHeartbeats 4000000
/-! RaiseKit: an error raised; several clauses, with and without names; what a lambda handed over says. -/
namespace L2
open PySem PySem.Spec PyProof.Rows EK
section
variable {X : Cx} {C fI : Addr} {x f : Str}
/-- x(e), made to be raised: its own dict, new, holds the value -/
def tErrMk (C : Addr) (f : Str) (ta : TA) : St → Hp → XK → Prop := fun σ H Q => ta σ H fun vs H1 => ∃ v, vs = [v] ∧ ∀ d, H1 d = none → Q (.ref C) (some d) (upd H1 d (.xd [(f, v)]))
theorem pmk_err {a : Expr} {ta : TA} {p pos : Pos} {k : Nat} (T : ErrTxt X.prog X.K X.mg x f C fI) (hr : Room k X.A) (ha : PA X [a] ta) (hg : Gl X x) (hd : (x == ("__debug__" : Str)) = false := by decide)
    (he : starEach (a :: []) X.env = (false, eval a X.env) :: starEach [] X.env := by rfl) (hpl : (backTo pos (starEach [] X.env)).any (·.1) = false := by rfl) :
    PMk X (.Call (.Name x p) [a] [] pos) (tErrMk C f ta) := by
  intro pins s σ H Q I h
  refine wpAny_Call_Name_kw (ld_glob I hg T.gC ?_ hd)
  refine PySem.W.callWith_K (h₀ := X.base) I.ok.mod.kin T.kC (thn (ha.run pos pins s σ H _ I h) fun us s1 hh => ?_) he hpl
  obtain ⟨vs, H1, I1, r1, v, ev, q1⟩ := hh
  subst ev
  refine ⟨I1.kIn, ?_⟩
  cases r1 with
  | cons rv rn =>
    rename_i v' us'
    cases rn
    show wpAny _ _ (call (.ref C) [v']) _ _ _
    have hlim := I1.nolimit
    obtain ⟨hp, g, dr, tk, os⟩ := s1
    obtain ⟨mb, hb1, hb2⟩ := I1.mod.blt
    refine wpAny_call (err_made T I1.kIn hlim (I1.mod.glob.keeps I1.bk) ⟨mb, hb1.keeps I1.bk, hb2⟩ (by have := hr.dp; omega) fun h' tk' e d M => ?_)
    show MkP X pins σ Q (.ref e) ⟨h', g, dr, tk', os⟩
    obtain ⟨t1, hoe⟩ := M.obj
    obtain ⟨G, g1, g2⟩ := restrict h' fun b => decide (b ≠ e)
    have gk : ∀ b, b ≠ e → G.get? b = h'.get? b := fun b hb => g1 b (decide_eq_true hb)
    have ge : G.get? e = none := g2 e (by simp)
    have gs : ∀ b o, G.get? b = some o → h'.get? b = some o := fun b o q => by
      by_cases hbe : b = e
      · rw [hbe, ge] at q
        cases q
      · exact (gk b hbe).symm.trans q
    have old : ∀ b o, hp.get? b = some o → G.get? b = some o := fun b o q => (gk b (Nat.ne_of_lt (Nat.lt_of_lt_of_le (Heap.lt_size q) M.new))).trans (M.keep b o q)
    have ob : ObjOk X.prog X.w (upd H1 d (.xd [(f, v)])) G d (.xd [(f, v)]) := ⟨_, M.ns.at (fun o q => (gk d M.dne).trans q), relO_one rv⟩
    have J : Inv X pins σ (upd H1 d (.xd [(f, v)])) ⟨G, g, dr, tk', os⟩ := I1.laid (t' := tk') old M.dbig ob
    have ne : (upd H1 d (.xd [(f, v)])) e = none := by
      rw [upd_ne (Ne.symm M.dne)]
      exact I1.hok.fresh M.new
    exact ⟨e, _, _, ⟨G, g, dr, tk', os⟩, _, .ref C, some d, rfl, J, gs, ge, hoe, ⟨rfl, rfl⟩, rfl, rfl, ne, rfl, I1.bare, raises_own T.exC T.tyC, q1 d (I1.hok.fresh M.dbig)⟩
theorem ps_raiseErr {a : Expr} {ta : TA} {W : WX} {p pos pos2 : Pos} {k : Nat} (hc : X.calm = true) (T : ErrTxt X.prog X.K X.mg x f C fI) (hr : Room k X.A) (tk : Takes X W) (ha : PA X [a] ta) (hg : Gl X x) (hd : (x == ("__debug__" : Str)) = false := by decide)
    (he : starEach (a :: []) X.env = (false, eval a X.env) :: starEach [] X.env := by rfl) (hpl : (backTo pos (starEach [] X.env)).any (·.1) = false := by rfl) :
    PS X (.Raise (some (.Call (.Name x p) [a] [] pos)) none pos2) (fun _ σ H => tErrMk C f ta σ H fun cls d H' => W cls d σ H') := ps_raise hc tk (pmk_err T hr ha hg hd he hpl)
end
/-! ### try with several clauses -/
structure Cl where
  c : Value
  i : Option Nat
  ts : Addr → Value → Option Addr → TS
def Ends.drop (D : Ends) (i : Nat) : Ends := { nx := fun s h => D.nx (s.set i none) h, rt := D.rt, bk := fun s h => D.bk (s.set i none) h, ct := fun s h => D.ct (s.set i none) h }
def Cl.run (k : Cl) (a : Addr) (cls : Value) (d : Option Addr) : TS := fun D σ H => match k.i with
  | none => k.ts a cls d D σ H
  | some i => i < σ.length → k.ts a cls d (D.drop i) (σ.set i (some (.ref a))) H
def wCl (K : PySem.W.Frag) (Wout : WX) (D : Ends) : List Cl → WX
  | [] => Wout
  | k :: r => fun cls d σ H => ∃ b, PySem.W.exmOne K cls k.c = some b ∧ (b = true → ∀ a, H a = none → k.run a cls d D σ H) ∧ (b = false → wCl K Wout D r cls d σ H)
inductive ClOk (X : Cx) : List ExceptHandler → List Cl → Prop
  | nil : ClOk X [] []
  | un {x : Str} {c : Value} {ts : Addr → Value → Option Addr → TS} {b1 : Stmt} {suite : List Stmt} {np pos' : Pos} {hds : List ExceptHandler} {l : List Cl} (hc : Names X x c)
      (hsu : ∀ (a : Addr) (oe : Obj) (cls : Value) (d : Option Addr) (pn : List (Addr × Obj)), Zc cls d oe → (∃ vs, oe.data = .fields vs) → PSs (X.suite a ((a, oe) :: pn)) (b1 :: suite) (ts a cls d)) (r : ClOk X hds l) :
      ClOk X (.ExceptHandler (some (.Name x np)) none (b1 :: suite) pos' :: hds) (⟨c, none, ts⟩ :: l)
  | as {x n : Str} {i : Nat} {c : Value} {ts : Addr → Value → Option Addr → TS} {b1 : Stmt} {suite : List Stmt} {np pos' : Pos} {hds : List ExceptHandler} {l : List Cl} (hi : X.N[i]? = some n) (hln : X.env.kindOf n = some .local) (hc : Names X x c)
      (hsu : ∀ (a : Addr) (oe : Obj) (cls : Value) (d : Option Addr) (pn : List (Addr × Obj)), Zc cls d oe → (∃ vs, oe.data = .fields vs) → PSs (X.suite a ((a, oe) :: pn)) (b1 :: suite) (ts a cls d)) (r : ClOk X hds l) :
      ClOk X (.ExceptHandler (some (.Name x np)) (some n) (b1 :: suite) pos' :: hds) (⟨c, some i, ts⟩ :: l)
section
variable {X : Cx} {body : List Stmt} {hd0 : ExceptHandler} {hds : List ExceptHandler} {l : List Cl} {pos : Pos} {tb : WX → TS} {Wout : WX} {pins : List (Addr × Obj)} {s : Shared} {D : Ends}
/-- behind a suite: its end, the name gone -/
theorem sp_unsuite {a : Addr} {q : Addr × Obj} {f : Flow} (ok : X.Ok) (h : SP (X.suite a (q :: (X.pn ++ pins))) [] D f s) : SP X pins D f s := by
  cases f with
  | next =>
    obtain ⟨t, h1, J, z⟩ := h
    exact ⟨t, h1, J.unsuite ok, z⟩
  | brk =>
    obtain ⟨t, h1, J, z⟩ := h
    exact ⟨t, h1, J.unsuite ok, z⟩
  | cont =>
    obtain ⟨t, h1, J, z⟩ := h
    exact ⟨t, h1, J.unsuite ok, z⟩
  | ret u =>
    obtain ⟨v, t, h1, J, r, z⟩ := h
    exact ⟨v, t, h1, J.unsuite ok, r, z⟩
theorem sp_gone {n : Str} {i : Nat} {f : Flow} {pos' : Pos} (hN : X.N.Nodup) (hi : X.N[i]? = some n) (hln : X.env.kindOf n = some .local) (h : SP X pins (D.drop i) f s) :
    wpAny (model X.prog X.w) X.A (do bindName X.env n .none; unbindBehindTheSuite X.env n pos') (fun _ s7 => SP X pins D f s7) X.xe s := by
  cases f with
  | next =>
    obtain ⟨t, h1, J, z⟩ := h
    exact gone_ok J hN hi hln fun s7 J7 => ⟨_, _, J7, z⟩
  | brk =>
    obtain ⟨t, h1, J, z⟩ := h
    exact gone_ok J hN hi hln fun s7 J7 => ⟨_, _, J7, z⟩
  | cont =>
    obtain ⟨t, h1, J, z⟩ := h
    exact gone_ok J hN hi hln fun s7 J7 => ⟨_, _, J7, z⟩
  | ret u =>
    obtain ⟨v, t, h1, J, r, z⟩ := h
    exact gone_ok J hN hi hln fun s7 J7 => ⟨_, _, _, J7, r, z⟩
theorem names_ld {a : Addr} {oe : Obj} {pn : List (Addr × Obj)} {σ : St} {H : Hp} {x : Str} {c : Value} {np : Pos} (S : Inv (X.suite a ((a, oe) :: pn)) [] σ H s) (hc : Names X x c) {Q : Value → Shared → Prop} {E : Value → Shared → Prop} (q : Q c s) :
    wpAny (model X.prog X.w) (X.A.mark (some (.ref a))) (eval (.Name x np) X.env) Q E s := by
  obtain ⟨h1, h2, h3⟩ := hc
  rcases h3 with h3 | ⟨h3, h4, h5⟩
  · exact ld_glob (X := X.suite a ((a, oe) :: pn)) S h1 h3 q h2
  · exact ld_blt (X := X.suite a ((a, oe) :: pn)) S h1 h3 h4 q h5 h2
theorem ps_tryC (hs : X.stack = X.env :: X.outer) (hf : X.env.frame = some X.env.locals) (hN : X.N.Nodup) (tk : Takes X Wout)
    (hb : ∀ (W : WX) (pn : List (Addr × Obj)) (xe : Value → Shared → Prop), Takes (X.tr pn xe) W → PassesOwn (model X.prog X.w) X.A X.env xe → PSs (X.tr pn xe) body (tb W))
    (hh : ClOk X (hd0 :: hds) l) : PS X (.Try body (hd0 :: hds) [] [] pos) (fun D σ H => tb (wCl X.K Wout D l) D σ H) := by
  refine ⟨fun pins s σ H D I h => ?_⟩
  have ok := I.ok
  have hfr : X.A.frames = some (X.env :: X.outer) := ok.frames.trans (congrArg some hs)
  refine wpAny_Try_except (wpAny_mono ((hb (wCl X.K Wout D l) (X.pn ++ pins) _ (fun u s' xx => ?_) PassesOwn.looking).run [] s σ H D (I.toTry _) h) (fun fl s1 hsp => ?_) fun e s1 he => he)
  · -- an exception has come
    obtain ⟨a, B, sI, pins', σ', H', cls, d, rfl, J0, nb, up, sky, na, os, ag, w⟩ := xx
    have J : Inv X pins σ' H' sI := J0.ofTry ok
    rw [hs] at sky
    show wpAny (model X.prog X.w) X.A (noteFrame (.ref a) X.env) _ _ _
    refine Sky.land Zc.steady hfr hf sky fun h3 fl3 up3 => ?_
    have J3 : Inv X pins σ' H' { s' with heap := h3 } := J.landed nb fl3.1 (up.trans up3) os ag
    obtain ⟨oe3, vs3, he3, hz3, hd3⟩ := fl3.there
    have ff := fl3.2.2.1
    have away : ∀ b ∈ frs (X.env :: X.outer), a ≠ b := fun b hm z => by
      obtain ⟨_, o', e', hnf⟩ := ff.mem hm
      rw [← z, he3] at e'
      cases e'
      exact hnf _ hd3
    have nL : a ≠ X.env.locals := away _ (List.mem_filterMap.mpr ⟨X.env, List.mem_cons_self, hf⟩)
    have nF : a ∉ X.fs := fun hm => by
      obtain ⟨e, he, q⟩ := List.mem_filterMap.mp hm
      exact away a (List.mem_filterMap.mpr ⟨e, List.mem_cons_of_mem _ he, q⟩) rfl
    have S3 := J3.suite he3 hd3 na nL nF
    have LT : PySem.W.Looks (model X.prog X.w) h3 (typeOf (.ref a)) cls := fun A Q E s k q => wpAny_typeOf_ref (k _ _ he3) (by rw [hz3.1]; exact q)
    have test : ∀ {x : Str} {c : Value} {np : Pos}, Names X x c → ∀ {Q : Value → Shared → Prop} {E : Value → Shared → Prop}, Q c { s' with heap := h3 } → wpAny (model X.prog X.w) (X.A.mark (some (.ref a))) (eval (.Name x np) X.env) Q E { s' with heap := h3 } := fun hc => names_ld S3 hc
    have go : ∀ {hs2 : List ExceptHandler} {l2 : List Cl}, ClOk X hs2 l2 → wCl X.K Wout D l2 cls d σ' H' →
        wpAny (model X.prog X.w) X.A (handleBy (.ref a) X.env hs2) (SP X pins D) X.xe { s' with heap := h3 } := by
      intro hs2 l2 hk
      induction hk with
      | nil =>
        intro w
        refine wpAny_handleBy_nil ?_
        obtain ⟨_, _, _, oe, vs, T, oT, ts', he, hz, hd, h1, hr⟩ := id fl3
        unfold PySem.passOn
        refine wpAny_bind (wpAny_field he hd h1 ?_)
        rw [if_neg (show ¬ ((Value.ref T == Value.none) = true) from by simp)]
        have fin : wpAny (model X.prog X.w) X.A (setFlight (.ref a) X.env.frame) (fun _ s4 => wpAny (model X.prog X.w) X.A (throw (.ref a) : Sem Flow) (SP X pins D) X.xe s4) X.xe { s' with heap := h3 } := by
          rw [hf]
          exact HandSPX.setFlight_upZ fl3 fun h4 hh4 up4 => wpAny_throw (tk _ _ ⟨a, B, sI, pins, σ', H', cls, d, rfl, J, nb, (up.trans up3).trans up4, .inr (.inr (by rw [hs]; exact hh4)), na, os, ag, w⟩)
        first
          | exact wpAny_bind (wpAny_pure (wpAny_bind fin))
          | exact wpAny_bind fin
      | @un x c ts b1 suite np pos' hds2 l2 hc hsu r ih =>
        intro ⟨b, hb1, hyes, hno⟩
        refine wpAny_handleBy_cons (codeAny_handlers_test (test hc ((PySem.W.exm_one (M := model X.prog X.w) J3.kIn LT hb1).here ?_))) (by intro q; cases q)
        cases b with
        | false => exact ih (hno rfl)
        | true =>
          refine codeAny_handlers_suite (HandSPX.lands_againZ fl3 fun h4 fl4 up4 => ?_)
          have J4 : Inv X pins σ' H' { s' with heap := h4 } := J.landed nb fl4.1 ((up.trans up3).trans up4) os ag
          obtain ⟨oe4, vs4, he4, hz4, hd4⟩ := fl4.there
          exact wpAny_mono ((hsu a oe4 cls d (X.pn ++ pins) hz4 ⟨_, hd4⟩).run [] _ _ H' _ (J4.suite he4 hd4 na nL nF) (hyes rfl a na)) (fun f s6 hsp => sp_unsuite ok hsp) (fun _ _ z => False.elim z)
      | @as x n i c ts b1 suite np pos' hds2 l2 hi hln hc hsu r ih =>
        intro ⟨b, hb1, hyes, hno⟩
        refine wpAny_handleBy_cons (codeAny_handlers_test (test hc ((PySem.W.exm_one (M := model X.prog X.w) J3.kIn LT hb1).here ?_))) (by intro q; cases q)
        cases b with
        | false => exact ih (hno rfl)
        | true =>
          refine codeAny_handlers_suite_as (HandSPX.lands_againZ fl3 fun h4 fl4 up4 => ?_)
          have J4 : Inv X pins σ' H' { s' with heap := h4 } := J.landed nb fl4.1 ((up.trans up3).trans up4) os ag
          obtain ⟨oe4, vs4, he4, hz4, hd4⟩ := fl4.there
          refine store_ok (X := X.suite a ((a, oe4) :: (X.pn ++ pins))) (v := .ref a) (J4.suite he4 hd4 na nL nF) hN hi (.inl hln) rfl (fun s5 S5 => ?_) (.inr hln)
          have hil : i < σ'.length := by rw [J.len]; exact (List.getElem?_eq_some_iff.mp hi).1
          exact wpAny_mono ((hsu a oe4 cls d (X.pn ++ pins) hz4 ⟨_, hd4⟩).run [] s5 _ H' _ S5 (hyes rfl a na hil)) (fun f s6 hsp => sp_gone hN hi hln (sp_unsuite ok hsp)) (fun _ _ z => False.elim z)
    exact go hh w
  · cases fl with
    | next =>
      obtain ⟨t, h1, J', q⟩ := hsp
      exact wpAny_execs_nil ⟨t, h1, J'.ofTry ok, q⟩
    | brk =>
      obtain ⟨t, h1, J', q⟩ := hsp
      exact ⟨t, h1, J'.ofTry ok, q⟩
    | cont =>
      obtain ⟨t, h1, J', q⟩ := hsp
      exact ⟨t, h1, J'.ofTry ok, q⟩
    | ret u =>
      obtain ⟨v, t, h1, J', r, q⟩ := hsp
      exact ⟨v, t, h1, J'.ofTry ok, r, q⟩
end
end L2

set_option Elab.async false
set_option linter.all false
set_option maxRecDepth 100000
set_option maxHeartbeats 4000000
/-! SaidKit: what a lambda handed over tells, or which of two errors it raises, as a pair. -/
namespace L2
open PySem PySem.Spec PyProof.Rows EK LamX
/-- an error of cls with its dict d: of the class at C, its one value told as (m, value) -/
def errTold (C : Addr) (f m : Str) (Q : VK) : XK := fun cls d H => cls = .ref C ∧ ∃ (dd : Addr) (v : V), d = some dd ∧ H dd = some (.xd [(f, v)]) ∧ ∀ p, H p = none → Q (.ref p) (upd H p (.tup [.str m, v]))
def wSaid (K : PySem.W.Frag) (C1 C2 : Addr) (f1 f2 m1 m2 : Str) (Q : VK) : XK := fun cls d H => ∃ b1, PySem.W.exmOne K cls (.ref C1) = some b1 ∧ (b1 = true → errTold C1 f1 m1 Q cls d H) ∧
  (b1 = false → ∃ b2, PySem.W.exmOne K cls (.ref C2) = some b2 ∧ (b2 = true → errTold C2 f2 m2 Q cls d H) ∧ (b2 = false → False))
def TSaid (K : PySem.W.Frag) (C1 C2 : Addr) (f1 f2 m1 m2 : Str) : (XK → Hp → VK → Prop) → Hp → VK → Prop := fun tl H Q =>
  tl (wSaid K C1 C2 f1 f2 m1 m2 Q) H fun v H1 => [V.str "told", v].length ≤ sizeLine ∧ ∀ p, H1 p = none → Q (.ref p) (upd H1 p (.tup [.str "told", v]))
theorem said_gives {X : Cx} {Ng : List Str} {x a e1 e2 n1 n2 q f1 f2 m1 m2 : Str} {sg : Scope} {g C1 C2 : Addr} {cdg : Value} {j0 j1 j2 : Nat} {p1 p2 p3 p4 p5 p6 p7 p8 a1 a2 a3 a4 a5 a6 a7 b1 b2 b3 b4 b5 b6 b7 c1 c2 : Pos} {k0 k1 k2 : Nat} {mz : Value}
    (hN : Ng.Nodup) (hn1 : Ng[1]? = some n1) (hl1 : sg.names.lookup n1 = some .local) (hn2 : Ng[1]? = some n2)
    (ge1 : sg.names.lookup e1 = some .globalImplicit) (hm1 : X.mg e1 = some (.ref C1)) (de1 : (e1 == ("__debug__" : Str)) = false)
    (ge2 : sg.names.lookup e2 = some .globalImplicit) (hm2 : X.mg e2 = some (.ref C2)) (de2 : (e2 == ("__debug__" : Str)) = false)
    (T1 : XfC X.K C1) (T2 : XfC X.K C2) (no1 : PySem.W.findIn X.K (.ref C1) f1 = some none) (no2 : PySem.W.findIn X.K (.ref C2) f2 = some none) (dn : (n1 == ("__debug__" : Str)) = false) (cn : (n1 == ("__classdict__" : Str)) = false) (sk : sg.kind = .function)
    (h0 : ∀ f : Addr, (L2.start Ng [V.ref f])[0]? = some (some (V.ref f))) (hz1 : ∀ f : Addr, (L2.start Ng [V.ref f])[1]? = some none) :
    GivesTo X Ng x sg g cdg [.Try [.Return (some (.Tuple [.Constant (.str "told") j0 p1, .Call (.Name a p2) [] [] p3] k0 p4)) p5]
      [.ExceptHandler (some (.Name e1 a1)) (some n1) [.Return (some (.Tuple [.Constant (.str m1) j1 a2, .Attribute (.Name n1 a3) f1 a4] k1 a5)) a6] a7,
       .ExceptHandler (some (.Name e2 b1)) (some n2) [.Return (some (.Tuple [.Constant (.str m2) j2 b2, .Attribute (.Name n2 b3) f2 b4] k2 b5)) b6] b7] [] [] p8] a q (TSaid X.K C1 C2 f1 f2 m1 m2) := by
  obtain rfl : n1 = n2 := Option.some.inj (hn1.symm.trans hn2)
  intro f c' s H Q tl act hc h
  have hlen : 1 < (L2.start Ng [V.ref f]).length := by
    have z := hz1 f
    exact (List.getElem?_eq_some_iff.mp z).1
  have gl1 : Gl (cxOf C8.CX0 X.prog X.w X.K X.mg X.base Ng x sg g cdg X.A X.stack s H C8.E0).nox e1 := ge1
  have gl2 : Gl (cxOf C8.CX0 X.prog X.w X.K X.mg X.base Ng x sg g cdg X.A X.stack s H C8.E0).nox e2 := ge2
  refine ⟨_, pss_one (ps_tryC (X := (cxOf C8.CX0 X.prog X.w X.K X.mg X.base Ng x sg g cdg X.A X.stack s H C8.E0).nox)
      (tb := fun W D σ H => ∃ Ech : XK, (∀ cls d σ' H', Ech cls d H' → W cls d σ' H') ∧ σ[0]? = some (some (.ref f)) ∧ H c' = some (CodeO c' q) ∧ tl Ech H (fun v H1 => [V.str "told", v].length ≤ sizeLine ∧ ∀ p, H1 p = none → D.rt (.ref p) (upd H1 p (.tup [.str "told", v]))))
      (l := [⟨.ref C1, some 1, fun a cls d => tRet (tTup (tCons (tC (.str m1)) (tCons (tXf a cls d C1 f1 (tVar 1)) tNil)))⟩, ⟨.ref C2, some 1, fun a cls d => tRet (tTup (tCons (tC (.str m2)) (tCons (tXf a cls d C2 f2 (tVar 1)) tNil)))⟩])
      rfl rfl hN takes0 (fun W pn xe tk _ => ?_)
      (ClOk.as hn1 (by show Env.kindOf _ n1 = some NameKind.local; exact hl1) ⟨gl1, de1, .inl hm1⟩ (fun a oe cls d pn hz hf => pss_one (ps_ret (pe_tup (pa_cons pe_str (pa_cons (pe_xf T1 no1 hz hf (pe_var (i := 1) hn1 (Or.inl hl1) dn cn)) pa_nil)))))
        (ClOk.as hn1 (by show Env.kindOf _ n1 = some NameKind.local; exact hl1) ⟨gl2, de2, .inl hm2⟩ (fun a oe cls d pn hz hf => pss_one (ps_ret (pe_tup (pa_cons pe_str (pa_cons (pe_xf T2 no2 hz hf (pe_var (i := 1) hn1 (Or.inl hl1) dn cn)) pa_nil))))) .nil))), ?_⟩
  · refine ⟨fun pins s' σ H' D I h' => ?_⟩
    obtain ⟨Ech, hW, h1, h2, h3⟩ := h'
    have hp := act W pn xe Ech p2 p3 tk hW
    have hq : PSs ((cxOf C8.CX0 X.prog X.w X.K X.mg X.base Ng x sg g cdg X.A X.stack s H C8.E0).tr pn xe) [.Return (some (.Tuple [.Constant (.str "told") j0 p1, .Call (.Name a p2) [] [] p3] k0 p4)) p5] _ := pss_one (ps_ret (pe_tup (pa_cons pe_str (pa_cons hp pa_nil))))
    exact hq.run pins s' σ H' D I ⟨h1, h2, h3⟩
  · have hset : ∀ (σ : L2.St) (y : V), 1 < σ.length → (σ.set 1 (some y))[1]? = some (some y) := fun σ y h => by rw [List.getElem?_set_self h]
    have two : ∀ x y : V, [x, y].length ≤ sizeLine := fun x y => by show 2 ≤ sizeLine; decide
    refine ⟨wSaid X.K C1 C2 f1 f2 m1 m2 Q, fun cls d σ' H' ⟨b1, e1, y1, z1⟩ => ⟨b1, e1, fun hb a ha hl => ?_, fun hb => ?_⟩, h0 f, hc, h⟩
    · obtain ⟨ec, dd, v, ed, hd, q⟩ := y1 hb
      exact ⟨_, hset _ _ hl, rfl, ec, dd, _, v, ed, hd, look1 _ _, two _ _, q⟩
    · obtain ⟨b2, e2, y2, z2⟩ := z1 hb
      refine ⟨b2, e2, fun hb2 a ha hl => ?_, fun hb2 => z2 hb2⟩
      obtain ⟨ec, dd, v, ed, hd, q⟩ := y2 hb2
      exact ⟨_, hset _ _ hl, rfl, ec, dd, _, v, ed, hd, look1 _ _, two _ _, q⟩
end L2

set_option Elab.async false
set_option linter.all false
set_option maxRecDepth 100000
set_option maxHeartbeats 4000000
/-! SayKit: isinstance of the error that a suite holds; a call of what a slot holds, one of several defs; a said: try: a() / except .. / return word. -/
namespace L2
open PySem PySem.Spec PyProof.Rows EK LamX
def rIsX (K : PySem.W.Frag) (a : Addr) (cls : Value) (d : Option Addr) : List V → Hp → VK → Prop := fun xs H Q => ∃ (C dd : Addr) (fs : List (Str × V)) (c : V) (u : Value) (b : Bool), xs = [.ref a, c] ∧ cls = .ref C ∧ d = some dd ∧ H dd = some (.xd fs) ∧ ExcC K C ∧ ClsV c u ∧ PySem.W.kitOne K (.ref C) u = some b ∧ Q (.bl b) H
theorem call_isX {X : Cx} {a : Addr} {oe : Obj} {cls : Value} {d : Option Addr} {pn : List (Addr × Obj)} (hz : Zc cls d oe) (hf : ∃ vs, oe.data = .fields vs) : CallR (X.suite a ((a, oe) :: pn)) (.builtin "isinstance") (rIsX X.K a cls d) := by
  intro pins s σ H xs us Q I r h
  obtain ⟨C, dd, fs, c, u, b, rfl, rfl, rfl, ed, T, k, e, q⟩ := h
  obtain ⟨u1, u2, rfl, r1, r2⟩ := vals2 r
  have e2 := k.eq r2
  subst e2
  cases r1
  obtain ⟨ha, _⟩ := I.pin (a, oe) (List.mem_append_left _ List.mem_cons_self)
  obtain ⟨vs, hd⟩ := hf
  have hcl : (PySem.W.clsIn X.K C).isSome = true := by
    obtain ⟨cd, hc, _⟩ := PySem.W.any_some T.hd
    rw [hc]
    rfl
  have hx : ObjOk X.prog X.w H s.heap dd (.xd fs) := I.hok dd _ ed
  obtain ⟨mA, ⟨od, es, ep, ho, hr⟩, _⟩ := hx
  have J : PySem.W.InstAt s.heap a oe C (some od) := ⟨ha, hz.1, by unfold PySem.W.notCls; rw [hd] <;> rfl, by rw [hz.2]; exact ho⟩
  exact PySem.W.kia_one (PySem.W.kitx_exc (od := some od) hcl T.hg T.hk T.hs T.ha T.hn T.ht T.hm) I.kIn J e (fun z => nomatch z) fun tk => ⟨.bl b, H, I.tok tk, rfl, q⟩
/-- x(..), x a slot that holds one of several defs of one promise -/
def tCallF (i : Nat) (fs : List Addr) (sp : Sp) (E : XK) (t : TA) : TE := fun σ H Q => ∃ f ∈ fs, σ[i]? = some (some (.ref f)) ∧ t σ H fun vs H1 => sp vs H1 Q E
section
variable {X : Cx} {CX : CXT} {k i : Nat} {sp : Sp} {E : XK} {x : Str} {p pos : Pos} {e : Expr} {es : List Expr} {t : TA}
theorem pe_callF {fs : List Addr} (F : ∀ f ∈ fs, ∃ (fd : FuncData) (ps : List Str), FnOk X.prog X.w X.K X.mg X.base CX k f fd ps sp ∧ PySem.W.keepIn X.K (.ref f) = true ∧ Binds X.K fd ps []) (hr : Room k X.A) (hN : X.N[i]? = some x) (hv : Vis X.env.scope x) (hx : Passes CX X E) (ha : PA X (e :: es) t)
    (hdb : (x == ("__debug__" : Str)) = false := by decide) (hcd : (x == ("__classdict__" : Str)) = false := by decide)
    (he : starEach (e :: es) X.env = (false, eval e X.env) :: starEach es X.env := by rfl) (hpl : (backTo pos (starEach es X.env)).any (·.1) = false := by rfl) : PE X (.Call (.Name x p) (e :: es) [] pos) (tCallF i fs sp E t) := by
  refine ⟨fun pins s σ H Q I h => ?_⟩
  obtain ⟨f, hf, hs, ht⟩ := h
  obtain ⟨fd, ps, G, hk, hb⟩ := F f hf
  refine (pe_callL (i := i) (f := f) (sp := sp) (dvs := []) (E := E) G hr hN hv hk hb .nil hx ha hdb hcd he hpl).run pins s σ H Q I ⟨hs, ?_⟩
  have e0 : (fun (vs : List V) (H1 : Hp) => sp (vs ++ []) H1 Q E) = fun vs H1 => sp vs H1 Q E := by
    funext vs H1
    rw [List.append_nil]
  show t σ H (fun vs H1 => sp (vs ++ []) H1 Q E)
  rw [e0]
  exact ht
end
theorem ite_yes {b : Bool} {P R : Prop} (h : b = true) (p : P) : if b = true then P else R := by rw [if_pos h]; exact p
/-- an error of the class at C, its one value told as [m, value] -/
def errL (C : Addr) (f m : Str) (Q : VK) : XK := fun cls d H => cls = .ref C ∧ ∃ (dd : Addr) (v : V), d = some dd ∧ H dd = some (.xd [(f, v)]) ∧ ∀ p, H p = none → Q (.ref p) (upd H p (.lst [.str m, v]))
/-- the clause: what it makes of the error it catches -/
def ClGives (X : Cx) (C : Addr) (suite : List Stmt) (R : VK → XK) : Prop := ∃ ts : Addr → Value → Option Addr → TS,
  (∀ (a : Addr) (oe : Obj) (cls : Value) (d : Option Addr) (pn : List (Addr × Obj)), Zc cls d oe → (∃ vs, oe.data = .fields vs) → PSs (X.suite a ((a, oe) :: pn)) suite (ts a cls d)) ∧
  ∀ (a : Addr) (cls : Value) (d : Option Addr) (D : Ends) (σ : St) (H : Hp), 2 < σ.length → H a = none → R D.rt cls d H → ts a cls d (D.drop 1) (σ.set 1 (some (.ref a))) H
end L2

set_option Elab.async false
set_option linter.all false
set_option maxRecDepth 100000
set_option maxHeartbeats 4000000
/-! ValKit: d.values(), sum and list of it; math.comb. -/
namespace L2
open PySem PySem.Spec PyProof.Rows
section
variable {X : Cx}
abbrev vwO (p d : Addr) : HO := viewO "dict_values" p d
def rVals : V → List V → Hp → VK → Prop := fun x xs H Q => ∃ (a : Addr) (kvs : List (Key × V)), x = .ref a ∧ xs = [] ∧ H a = some (.dK kvs) ∧ ∀ p, H p = none → Q (.ref p) (upd H p (vwO p a))
theorem mt_values : MtR X "dict.values" rVals := by
  intro pins s σ H x xs v us Q I rx rxs h
  obtain ⟨a, kvs, rfl, rfl, ha, q⟩ := h
  cases rx
  cases rxs
  obtain ⟨_, hsys, vs, rel, dof⟩ := dk_of I.hok ha
  refine call_meetsIn F.slot_dict_values dof.typeIs F.entry_dict_values (F.args_dict_values_1 _) (meets_dict_values (mixKind X.prog X.w) a hsys) ⟨⟨vs, dof⟩, ?_⟩
  exact ⟨.ref s.heap.objs.size, upd H s.heap.objs.size (vwO s.heap.objs.size a), I.laid (t' := s.toks) (fun b u e => Heap.get?_push_of_some _ e) (Nat.le_refl _) (viewO_ok (Heap.get?_push_size _ rfl)), rfl, q _ (I.hok.fresh (Nat.le_refl _))⟩
theorem preSum_ints (ns : List Int) : ∀ j, preSum (fun i => ns.getD i 0) j = (ns.take j).sum := by
  intro j
  induction j with
  | zero => simp [preSum]
  | succ j ih =>
    rw [preSum, ih]
    by_cases h : j < ns.length
    · rw [List.getD_eq_getElem?_getD, List.getElem?_eq_getElem h, List.take_succ_eq_append_getElem h, List.sum_append]
      simp only [Option.getD_some, List.sum_cons, List.sum_nil, Int.add_zero]
    · rw [List.take_of_length_le (by omega), List.take_of_length_le (by omega), List.getD_eq_getElem?_getD, List.getElem?_eq_none (by omega)]
      simp
def rSumV : List V → Hp → VK → Prop := fun xs H Q => ∃ (p a : Addr) (kvs : List (Key × V)) (ns : List Int), xs = [.ref p] ∧ H p = some (vwO p a) ∧ H a = some (.dK kvs) ∧ kvs.map (·.2) = ns.map V.int ∧ Q (.int ns.sum) H
theorem cr_sumV (hc : X.calm = true) : CallR X (.builtin "sum") rSumV := by
  intro pins s σ H xs us Q I r h
  obtain ⟨p, a, kvs, ns, rfl, hp, ha, hv, q⟩ := h
  rw [Vals.ref1 r]
  have vw : s.heap.get? p = some (DSub.viewOb "dict_values" a) := (show ObjOk X.prog X.w H s.heap p (vwO p a) from I.hok p _ hp).1
  obtain ⟨_, hsys, vs, rel, dof⟩ := dk_of I.hok ha
  obtain ⟨ep, dat⟩ := dof.dictAt
  obtain ⟨ob, es, ho, ex, hdat, hko, hpr, hnd⟩ := id dat
  have hlt : a < s.heap.objs.size := Heap.lt_size ho
  have hlv : vs.length = ns.length := by
    have e1 := congrArg List.length hv
    rw [List.length_map, List.length_map] at e1
    rw [← e1]
    exact (KV.length rel).symm
  have hval : ∀ (i : Nat) (v : Value), (∃ k, vs[i]? = some (k, v)) → ∃ t, v = Value.int (ns.getD i 0) t := fun i v ⟨k, hk⟩ => by
    obtain ⟨x, h1, h2⟩ := KV.at' rel hk
    have e1 : (kvs.map (·.2))[i]? = some x := by rw [List.getElem?_map, h1] <;> rfl
    rw [hv, List.getElem?_map] at e1
    obtain ⟨j, hj, e2⟩ := Option.map_eq_some_iff.mp e1
    subst e2
    obtain ⟨t, e3⟩ := h2
    refine ⟨t, ?_⟩
    rw [e3, List.getD_eq_getElem?_getD, hj] <;> rfl
  refine call_sum_walkAnyS (wpAny_pyIter_values (v := p) (d := a) ⟨_, vw, rfl, rfl⟩ dat ?_)
  refine ⟨_, _, _, _, _, _, _, fun i => ns.getD i 0, rfl, (Walks.dictValues (knd := mixKind X.prog X.w) (A := X.A.in1) (I.ok.hd hc) s.heap.objs.size a (Nat.ne_of_lt hlt) vs ep).toS,
    ⟨⟨_, Heap.get?_push_size _ rfl, rfl, rfl⟩, dat.keep fun b u e => Heap.get?_push_of_some _ e⟩, fun b hb => ?_, hval, fun s' t' hm => ?_⟩
  · rcases List.mem_cons.mp hb with e | hb
    · rw [e, Heap.size_push]
      exact Nat.lt_succ_self _
    · rw [List.mem_singleton.mp hb, Heap.size_push]
      exact Nat.lt_succ_of_lt hlt
  · have hk : ∀ b o, s.heap.get? b = some o → s'.heap.get? b = some o := fun b o e =>
      hm.heap b o (fun hI => absurd (Heap.lt_size e) (by rw [List.mem_singleton.mp hI]; exact Nat.lt_irrefl _)) (Heap.get?_push_of_some _ e)
    rw [Moved.eq_with hm]
    refine ⟨.int _, H, I.kept (t' := s'.toks) hk, ⟨t', rfl⟩, ?_⟩
    rw [preSum_ints, hlv, List.take_length]
    exact q
def rListV : List V → Hp → VK → Prop := fun xs H Q => ∃ (p a : Addr) (kvs : List (Key × V)), xs = [.ref p] ∧ H p = some (vwO p a) ∧ H a = some (.dK kvs) ∧ ∀ r, H r = none → Q (.ref r) (upd H r (.lst (kvs.map (·.2))))
theorem vals_at {us : List Value} {xs : List V} (hl : us.length = xs.length) (h : ∀ (i : Nat) (u : Value), us[i]? = some u → ∃ x : V, xs[i]? = some x ∧ RelV x u) : Vals xs us := by
  induction xs generalizing us with
  | nil =>
    cases us with
    | nil => exact .nil
    | cons u us => cases hl
  | cons x xs ih =>
    cases us with
    | nil => cases hl
    | cons u us =>
      obtain ⟨y, e, r⟩ := h 0 u rfl
      cases e
      exact .cons r (ih (by simpa using hl) fun i u hu => by simpa using h (i + 1) u (by simpa using hu))
theorem cr_listV (hc : X.calm = true) : CallR X (.type "list") rListV := by
  intro pins s σ H xs us Q I r h
  obtain ⟨p, a, kvs, rfl, hp, ha, q⟩ := h
  rw [Vals.ref1 r]
  have vw : s.heap.get? p = some (DSub.viewOb "dict_values" a) := (show ObjOk X.prog X.w H s.heap p (vwO p a) from I.hok p _ hp).1
  obtain ⟨hz, hsys, vs, rel, dof⟩ := dk_of I.hok ha
  obtain ⟨ep, dat⟩ := dof.dictAt
  have hl : kvs.length = vs.length := KV.length rel
  refine PySem.W.kdl_call (PySem.W.kdl_values (knd := mixKind X.prog X.w) (kvs := vs) (ep := ep)) (I.ok.hd hc) ⟨⟨_, vw, rfl, rfl⟩, dat⟩ (by omega) fun h' tk acc c hk hS hacc => ?_
  refine ⟨.ref s.heap.objs.size, _, I.laid (t' := tk) (a := s.heap.objs.size) (o := .lst (kvs.map (·.2))) hk (Nat.le_refl _) ⟨by rw [List.length_map]; exact hz, acc.toList, c, vals_at (by rw [Array.length_toList, hacc.1, List.length_map, hl]) fun i u hu => ?_, by rw [Array.toArray_toList]; exact hS⟩, rfl, q _ (I.hok.fresh (Nat.le_refl _))⟩
  obtain ⟨k, e⟩ := hacc.2 i u (by rw [← Array.getElem?_toList]; exact hu)
  obtain ⟨x, h1, h2⟩ := KV.at' rel e
  exact ⟨x, by rw [List.getElem?_map, h1] <;> rfl, h2⟩
def rComb : List V → Hp → VK → Prop := fun vs H Q => ∃ a b : Int, vs = [.int a, .int b] ∧ 0 ≤ a ∧ 0 ≤ b ∧ a < 2 ^ 64 ∧ b ≤ 9000 ∧ Q (.int (PySem.W.mcComb a b)) H
theorem cr_comb : CallR X (.builtin "math.comb") rComb := by
  intro pins s σ H vs us Q I r h
  obtain ⟨a, b, rfl, ha, hb, ha2, hk, q⟩ := h
  obtain ⟨t, u, rfl⟩ := Vals.int2 r
  exact PySem.W.mc_comb ha hb ha2 (.inl hk) fun _ => ⟨.int _, H, I.tok _, ⟨_, rfl⟩, q⟩
end
end L2

set_option Elab.async false
set_option linter.all false
set_option maxRecDepth 100000
set_option maxHeartbeats 4000000
/-! ListStr: list(text). -/
namespace L2
open PySem PySem.Spec PyProof.Rows
section
variable {X : Cx}
def rListS : List V → Hp → VK → Prop := fun xs H Q => ∃ z : Str, xs = [.str z] ∧ z.cps.size ≤ 1000 ∧ ∀ p, H p = none → Q (.ref p) (upd H p (.lst (z.cps.toList.map fun c => V.str ⟨#[c]⟩)))
theorem call_listS (hc : X.calm = true) : CallR X (.type "list") rListS := by
  intro pins s σ H xs us Q I r h
  obtain ⟨z, rfl, hz, q⟩ := h
  obtain ⟨u, rfl, ru⟩ := vals1 r
  obtain ⟨t, rfl⟩ := ru
  have hsz : sizeLine = 2 ^ 24 := sizeLine_eq
  refine call_list_str (I.ok.hd hc) z t (fun h' tk acc c' hk hS hi => ?_) (by omega)
  refine ⟨.ref s.heap.objs.size, _, I.laid (t' := tk) (a := s.heap.objs.size) (o := .lst (z.cps.toList.map fun c => V.str ⟨#[c]⟩)) hk (Nat.le_refl _) ⟨by rw [List.length_map, Array.length_toList]; omega, acc.toList, c', vals_at (by rw [Array.length_toList, hi.1, List.length_map, Array.length_toList]) fun i u hu => ?_, by rw [Array.toArray_toList]; exact hS⟩, rfl, q _ (I.hok.fresh (Nat.le_refl _))⟩
  obtain ⟨c, v, e1, e2⟩ := hi.2 i u (by rw [← Array.getElem?_toList]; exact hu)
  exact ⟨.str ⟨#[c]⟩, by rw [List.getElem?_map, Array.getElem?_toList, e1]; rfl, ⟨v, e2⟩⟩
end
end L2

set_option Elab.async false
set_option linter.all false
set_option maxRecDepth 100000
set_option maxHeartbeats 4000000
/-! SortSgn: sorted(text); sorted(texts), of any length. -/
namespace L2
open PySem PySem.Spec PyProof.Rows
def sgn (z : Str) : List Str := z.cps.toList.map fun c => ⟨#[c]⟩
section
variable {prog : Program} {w : World} {A : Around} {E : Value → Shared → Prop} {s : Shared}
theorem strs_of : ∀ {vs : List Value} {ys : List Str}, vs.length = ys.length → (∀ (j : Nat) v, vs[j]? = some v → ∃ y u, ys[j]? = some y ∧ v = .str y u) → StrsAre vs ys
  | [], [], _, _ => .nil
  | [], _ :: _, h, _ => by cases h
  | _ :: _, [], h, _ => by cases h
  | v :: vs, y :: ys, h, k => by
    obtain ⟨y', u, e, rfl⟩ := k 0 v rfl
    obtain rfl : y = y' := Option.some.inj e
    exact .cons _ _ (strs_of (Nat.succ.inj h) fun j v hv => k (j + 1) v hv)
theorem sgn_are {x : Str} {acc : Array Value} (hi : ItemsOf (SignAt x) acc x.cps.size) : StrsAre acc.toList (sgn x) := by
  refine strs_of ?_ fun j v hv => ?_
  · rw [sgn, List.length_map, Array.length_toList, Array.length_toList]
    exact hi.1
  · rw [Array.getElem?_toList] at hv
    obtain ⟨c, u, e, rfl⟩ := hi.2 j v hv
    exact ⟨_, u, by rw [sgn, List.getElem?_map, Array.getElem?_toList, e]; rfl, rfl⟩
theorem sorted_text {x : Str} {t : Tok} {R : Value → Shared → Prop} (hh : A.handled = none) (sz : x.cps.size ≤ 1000)
    (k : ∀ (h h' : Heap) (tk : Nat) (p : Addr) (out : List Value) (n : Nat) (ss : List Str), (∀ b o, s.heap.get? b = some o → h.get? b = some o) → (∀ b o, h.get? b = some o → h'.get? b = some o) → h.objs.size ≤ p → h'.get? p = some (seqObj "list" out.toArray n) → StrsAre out ss → ss.Perm (sgn x) → sortedS ss = true → R (.ref p) { s with heap := h', toks := tk }) :
    wpAny (model prog w) A (call (.builtin "sorted") [.str x t]) R E s := by
  have hsz : sizeLine = 2 ^ 24 := sizeLine_eq
  refine Calls.call_function_entry PyProof.Rows.kind_sorted PyProof.Rows.plain_sorted PyProof.Rows.entry_sorted (PyProof.Rows.args_sorted1 _) ?_
  unfold Builtin.«sorted»
  refine wpAny_bind (m := checkCount "sorted" 1 1 _) (wpAny_pure ?_)
  refine wpAny_bind (wpAny_collect_str (by simp [hh]) x t (fun s' acc kp g1 d1 o1 hi => ?_) (by omega))
  have hl : acc.toList.length = x.cps.size := by rw [Array.length_toList]; exact hi.1
  have hlz : acc.toList.length ≤ sizeLine := by omega
  have hS : StrsAre acc.toList (sgn x) := sgn_are hi
  refine wpAny_bind (wpAny_newList ?_ hlz)
  obtain ⟨h, g, dr, tk, os⟩ := s'
  subst g1 d1 o1
  have hoL : (h.push (seqObj "list" acc.toList.toArray 0)).get? h.objs.size = some (seqObj "list" acc.toList.toArray 0) := Heap.get?_push_size _ rfl
  have kp' : ∀ b o, s.heap.get? b = some o → h.get? b = some o := kp
  show wpAny _ _ _ _ _ { heap := h.push (seqObj "list" acc.toList.toArray 0), gens := s.gens, drawn := s.drawn, toks := tk, os := s.os }
  refine wpAny_bind (wpAny_holding (wpAny_call_entry slot_list_sort ⟨_, hoL, rfl⟩ entry_list_sort (list_sort_treeKAny strKind_oneLt hoL hS.keysOf (fun v₁ v₂ rest e => keyKind_strs (by rw [← e]; exact hS)) hlz fun st' a1 a2 => ⟨_, rfl, ?_⟩) (args_list_sort _)))
  obtain ⟨ss', h1, h2, h3⟩ := sorted_out_str hS a1 a2
  obtain ⟨ep, gp⟩ := PyProof.Rows.sortedHeap_at (vs := acc.toList) (out := (arrOf st').map (·.2)) hoL
  refine wpAny_pure ⟨_, rfl, k h _ tk h.objs.size _ ep ss' kp' (fun b o e => ?_) (Nat.le_refl _) gp h1 h2 h3⟩
  have lt := Heap.lt_size e
  rw [PyProof.Rows.sortedHeap_old (Nat.ne_of_lt lt) (by rw [Heap.size_push]; exact Nat.lt_succ_of_lt lt)]
  exact Heap.get?_push_of_some _ e
end
section
variable {X : Cx}
def rSortedStr : List V → Hp → VK → Prop := fun vs H Q => ∃ z : Str, vs = [V.str z] ∧ z.cps.size ≤ 1000 ∧ ∀ (ys : List Str) (p : Addr), ys.Perm (sgn z) → sortedS ys = true → H p = none → Q (.ref p) (upd H p (.lst (ys.map V.str)))
theorem cr_sortedStr (hc : X.calm = true) : CallR X (.builtin "sorted") rSortedStr := by
  intro pins s σ H vs us Q I r h
  obtain ⟨z, rfl, hz, q⟩ := h
  obtain ⟨u, rfl, ru⟩ := vals1 r
  obtain ⟨t, rfl⟩ := ru
  have hsz : sizeLine = 2 ^ 24 := sizeLine_eq
  refine sorted_text (I.ok.hd hc) hz fun h h' tk p out n ss kp0 kp le gp h1 h2 h3 => ?_
  have hlen : (ss.map V.str).length ≤ sizeLine := by
    rw [List.length_map, h2.length_eq, sgn, List.length_map, Array.length_toList]
    omega
  have J : Inv X pins σ H { s with heap := h } := I.kept kp0
  exact ⟨.ref p, upd H p (.lst (ss.map V.str)), J.laid (t' := tk) kp le ⟨hlen, out, n, vals_of_strs h1, gp⟩, rfl, q ss p h2 h3 (J.hok.fresh le)⟩
/-- sorted(texts), of any length -/
def rSortedSA (K : PySem.W.Frag) : List V → Hp → VK → Prop := fun vs H Q => ∃ (a : Addr) (xs : List Str), vs = [V.ref a] ∧ SqL K H a (xs.map V.str) ∧
  ∀ (ys : List Str) (p : Addr), ys.Perm xs → sortedS ys = true → H p = none → Q (.ref p) (upd H p (.lst (ys.map V.str)))
theorem cr_sortedSA : CallR X (.builtin "sorted") (rSortedSA X.K) := by
  intro pins s σ H vs us Q I r h
  obtain ⟨a, xs, rfl, hs, q⟩ := h
  obtain ⟨its, rv, hl, hz⟩ := I.list hs
  rw [Vals.ref1 r]
  refine PyProof.Rows.sorted_strsAny hl.isList rv.strs (by rw [← rv.length]; exact hz) fun out ys h1 h2 h3 => ?_
  obtain ⟨ep, he'⟩ := PyProof.Rows.sortedAll_at s.heap its out
  have hlen : (ys.map V.str).length ≤ sizeLine := by rw [List.length_map, h2.length_eq]; rw [List.length_map] at hz; exact hz
  exact ⟨.ref _, upd H (s.heap.objs.size + 1) (.lst (ys.map V.str)), I.laid (t' := s.toks) (fun _ _ => PyProof.Rows.sortedAll_old) (Nat.le_succ _) ⟨hlen, out.toList, ep, vals_of_strs h1, he'⟩, rfl, q ys _ h2 h3 (I.hok.fresh (Nat.le_succ _))⟩
end
end L2

set_option Elab.async false
set_option linter.all false
set_option maxRecDepth 100000
set_option maxHeartbeats 4000000
/-! SetTup: len(set(t)), t a tuple of texts. -/
namespace L2
open PySem PySem.Spec PyProof.Rows
/-- the unlike ones, in the order of their first -/
def ddS (l : List Str) : List Str := l.foldl (fun acc x => if x ∈ acc then acc else acc ++ [x]) []
theorem ddS_snoc (l : List Str) (x : Str) : ddS (l ++ [x]) = if x ∈ ddS l then ddS l else ddS l ++ [x] := by
  unfold ddS
  rw [List.foldl_append]
  rfl
theorem ddS_mem (l : List Str) (y : Str) : y ∈ ddS l ↔ y ∈ l := by
  have gen : ∀ (m acc : List Str), y ∈ m.foldl (fun acc x => if x ∈ acc then acc else acc ++ [x]) acc ↔ y ∈ acc ∨ y ∈ m := by
    intro m
    induction m with
    | nil => intro acc; simp
    | cons a m ih =>
      intro acc
      rw [List.foldl_cons, ih]
      by_cases h : a ∈ acc
      · rw [if_pos h]
        constructor
        · rintro (q | q)
          · exact .inl q
          · exact .inr (List.mem_cons_of_mem _ q)
        · rintro (q | q)
          · exact .inl q
          · rcases List.mem_cons.mp q with q | q
            · exact .inl (q ▸ h)
            · exact .inr q
      · rw [if_neg h, List.mem_append, List.mem_singleton, List.mem_cons]
        constructor
        · rintro ((q | q) | q)
          · exact .inl q
          · exact .inr (.inl q)
          · exact .inr (.inr q)
        · rintro (q | q | q)
          · exact .inl (.inl q)
          · exact .inl (.inr q)
          · exact .inr q
  have := gen l []
  simpa [ddS] using this
theorem ddS_len (l : List Str) : (ddS l).length ≤ l.length := by
  have gen : ∀ (m acc : List Str), (m.foldl (fun acc x => if x ∈ acc then acc else acc ++ [x]) acc).length ≤ acc.length + m.length := by
    intro m
    induction m with
    | nil => intro acc; exact Nat.le_refl _
    | cons a m ih =>
      intro acc
      rw [List.foldl_cons]
      refine Nat.le_trans (ih _) ?_
      split
      · rw [List.length_cons]; omega
      · rw [List.length_append, List.length_singleton, List.length_cons]; omega
  have := gen l []
  simpa [ddS] using this
section
variable {pr : Program} {w : World} {B : Around} {RR : Result → Shared → Prop} {it : Addr} {fq ww : List Addr} {GG : Array GenState → Array GenState → Prop} {m : Nat} {PP : Nat → Value → Prop} {TT : Nat → Shared → Prop}
theorem loop_texts (U : WalksS pr w B.in1 it fq ww GG m PP TT) (so : Addr) (hso : so ∉ fq) (ys : List Str) (hys : ys.length = m) (few : m < 64) (hv : ∀ i v, PP i v → ∃ t, v = .str (ys.getD i Str.empty) t) :
    ∀ (left i : Nat) (s : Shared), m - i = left → i ≤ m → TT i s → s.heap.SetOf (strKind pr w) so (fun q => decide (q ∈ ys.take i)) (ddS (ys.take i)).length →
      (∀ s', Moved (so :: ww) GG s s' → s'.heap.SetOf (strKind pr w) so (fun q => decide (q ∈ ys)) (ddS ys).length → RR (.ok (.ret .none)) s') →
      codeAny (model pr w) B (.builtin "set.update.loop" ⟨[.ref so, .ref it], []⟩) RR s := by
  have now : so ∉ ww := fun h => hso (U.sub _ h)
  have sub2 : ∀ b ∈ ww, b ∈ so :: ww := fun b hb => List.mem_cons_of_mem _ hb
  intro left
  induction left with
  | zero =>
    intro i s hl hi ht hS hR
    obtain rfl : i = m := by omega
    rw [← hys, List.take_length] at hS
    refine codeAny_builtin F.entry_set_update_loop ?_
    rw [Around.under_plainId F.plain_set_update_loop _]
    refine wpAny_bind (U.done s _ _ ht fun s' mv => ?_)
    obtain ⟨o, es, ep, tb, ho, rest⟩ := hS
    exact wpAny_pure (hR s' (mv.mono sub2) ⟨o, es, ep, tb, mv.heap so _ now ho, rest⟩)
  | succ left ih =>
    intro i s hl hi ht hS hR
    have him : i < m := by omega
    refine codeAny_builtin F.entry_set_update_loop ?_
    rw [Around.under_plainId F.plain_set_update_loop _]
    refine wpAny_bind (U.item i s _ _ him ht fun v s' hP ht' mv => ?_)
    obtain ⟨t, rfl⟩ := hv i v hP
    have hS' : s'.heap.SetOf (strKind pr w) so (fun q => decide (q ∈ ys.take i)) (ddS (ys.take i)).length := by
      obtain ⟨o, es, ep, tb, ho, rest⟩ := hS
      exact ⟨o, es, ep, tb, mv.heap so _ now ho, rest⟩
    have hlen := ddS_len (ys.take i)
    rw [List.length_take] at hlen
    refine wpAny_bind (wpAny_holding ?_)
    unfold setAdd
    refine wpAny_holding ?_
    refine wpAny_bind ((strKind pr w).pyHash (k := ys.getD i Str.empty) (strKind_is _ _ _ _) ?_)
    refine wpAny_setAddHashed_of (knd := strKind pr w) (s := { s' with toks := s'.toks + 1 }) (strKind_is _ _ _ _) rfl hS' (by unfold scanBound; omega) fun h' sb hS2 => ?_
    have ey : ys.take (i + 1) = ys.take i ++ [ys.getD i Str.empty] := by
      rw [List.take_succ, List.getD_eq_getElem?_getD, List.getElem?_eq_getElem (by omega)]
      rfl
    have hS3 : h'.SetOf (strKind pr w) so (fun q => decide (q ∈ ys.take (i + 1))) (ddS (ys.take (i + 1))).length := by
      rw [ey]
      refine SetOf_congr hS2 (fun q => ?_) ?_
      · by_cases h1 : q ∈ ys.take i
        · simp [h1]
        · simp [h1]
      · rw [ddS_snoc]
        by_cases h1 : ys.getD i Str.empty ∈ ys.take i
        · rw [if_pos ((ddS_mem _ _).mpr h1), if_pos (by simpa using h1)]
        · rw [if_neg (fun z => h1 ((ddS_mem _ _).mp z)), if_neg (by simpa using h1), List.length_append]
          rfl
    refine wpAny_pure ⟨plainId_quiet F.plain_set_update_loop _, ih (i + 1) _ (by omega) him (U.frame _ s' _ _ ht' (Nat.le_succ _) fun b hb o e => ?_) hS3 fun s2 mv2 hS4 => ?_⟩
    · rw [sb.2 b (fun z : b = so => hso (by rw [← z]; exact hb))]
      exact e
    · refine hR s2 (Moved.trans U.gtrans ((mv.mono sub2).then_heap (Nat.le_succ _) fun b o hb e => ?_) mv2) hS4
      rw [sb.2 b (fun z : b = so => hb (by rw [z]; exact List.mem_cons_self))]
      exact e
end
section
variable {pr : Program} {w : World} {B : Around} {EE : Value → Shared → Prop} {s : Shared}
abbrev setOb (led : Bool) : Obj := { cls := .type "set", dict := none, data := .set #[] 0 (.fresh 0 0 led) }
theorem call_set_texts {tu : Addr} {its : Array Value} {ys : List Str} {QQ : Value → Shared → Prop} (hd : B.handled = none) (ht : s.heap.IsTuple tu its) (hy : StrsAre its.toList ys) (few : ys.length < 64)
    (fin : ∀ (h' : Heap) (tk : Nat), h'.SetOf (strKind pr w) s.heap.objs.size (fun q => decide (q ∈ ys)) (ddS ys).length → (∀ b o, b < s.heap.objs.size → s.heap.get? b = some o → h'.get? b = some o) → QQ (.ref s.heap.objs.size) { s with heap := h', toks := tk }) :
    wpAny (model pr w) B (call (.type "set") [.ref tu]) QQ EE s := by
  obtain ⟨cc, tl, mro⟩ := F.called_set.mro
  have md := F.called_set.made
  have sb := F.called_set.sub
  refine wpAny_call (codeAny_of_tree ?_)
  show wpAny _ _ (callAny (.type "set") _) _ _ _
  refine wpAny_pure ⟨Code.quiet_builtin _ (by decide +kernel), codeAny_builtin F.entry_type_call ?_⟩
  rw [Around.under_plain (weight_type_call_type "set" [.ref tu] []) rfl]
  have q1 := F.called_set.notType
  have q2 := F.called_set.canCreate
  have q3 := F.typeCall_set_1 (.ref tu)
  repeat (any_goals (first | assumption | wp_step))
  refine codeAny_mono (code_set_new_1 (.ref tu) (E := EE) (Q₁ := fun ob s1 => ∃ led : Bool, ob = .ref s.heap.objs.size ∧ s1 = { s with heap := s.heap.push (setOb led) }) fun led => ⟨led, rfl, rfl⟩) fun r s1 hr => ?_
  cases r with
  | error e => exact hr
  | ok fl =>
    cases fl with
    | ret ob =>
      obtain ⟨led, rfl, rfl⟩ := hr
      have gS : (s.heap.push (setOb led)).get? s.heap.objs.size = some (setOb led) := Heap.get?_push_size _ rfl
      have tS : Shared.TypeIs { s with heap := s.heap.push (setOb led) } (.ref s.heap.objs.size) "set" := ⟨_, gS, rfl⟩
      have i1 := F.called_set.init.lookup
      have i2 := F.called_set.init.bind (.ref s.heap.objs.size)
      repeat (any_goals (first | assumption | wp_step))
      refine codeAny_mono (codeAny_call_builtin (R := wants (fun r s2 => r = .none ∧ ∃ h' tk, s2 = { s with heap := h', toks := tk } ∧ h'.SetOf (strKind pr w) s.heap.objs.size (fun q => decide (q ∈ ys)) (ddS ys).length ∧ (∀ b o, b < s.heap.objs.size → s.heap.get? b = some o → h'.get? b = some o)) EE) F.called_set.init.plain F.entry_set_init (check_set_init_1 tS ?_)) fun r2 s2 hr2 => ?_
      · obtain ⟨ot, got, ct, nt, dt⟩ := ht
        obtain ⟨otc, otd, otx, ots⟩ := ot
        simp only at ct dt
        subst ct
        subst dt
        have got2 : (s.heap.push (setOb led)).get? tu = some { cls := .type "tuple", dict := otd, data := .seq its nt, slots := ots } := Heap.get?_push_of_some _ got
        have u1 := F.sub_tuple_set
        have u2 := F.sub_tuple_frozenset
        have u3 : (Value.type "tuple" == Value.type "dict") = false := by decide
        have tup1 : (s.heap.push (setOb led)).IsTuple tu its := ⟨_, got2, rfl, nt, rfl⟩
        unfold Builtin.«set.__init__» noKeywords Builtin.Frozenset.updateFrom
        generalize hPI : pyIter = PI
        wp_walk
        subst hPI
        refine wpAny_pyIter_tuple tup1 ?_
        refine wpAny_bind (wpAny_runValue ?_)
        have lt1 : tu < s.heap.objs.size := Heap.lt_size got
        have hd3 : B.in1.in1.in1.handled = none := by simp [hd]
        have ne1 : tu ≠ (s.heap.push (setOb led)).objs.size := by
          rw [Heap.size_push]
          exact Nat.ne_of_lt (Nat.lt_succ_of_lt lt1)
        have so1 : s.heap.objs.size ∉ [(s.heap.push (setOb led)).objs.size, tu] := by
          rw [Heap.size_push]
          simp only [List.mem_cons, List.mem_singleton, List.not_mem_nil, or_false, not_or]
          exact ⟨Nat.ne_of_lt (Nat.lt_succ_self _), Nat.ne_of_gt lt1⟩
        have len1 : ys.length = its.size := by rw [← StrsAre.len_eq hy, Array.length_toList]
        refine loop_texts ((Walks.tuple hd3 _ tu ne1 its).toS) s.heap.objs.size so1 ys len1 (by omega) (fun i v e => SS.strs_at hy i v (by rw [Array.getElem?_toList]; exact e)) (its.size - 0) 0 _ (by omega) (Nat.zero_le _)
          ⟨⟨_, Heap.get?_push_size _ rfl, rfl, rfl⟩, tup1.push _⟩ ?start ?done
        case start =>
          have g2 : ((s.heap.push (setOb led)).push { cls := .type "tuple_iterator", data := .fields #[.ref tu, .int 0 0] }).get? s.heap.objs.size = some (setOb led) := Heap.get?_push_of_some _ gS
          exact SetOf_congr ((setObjOf_fresh (knd := strKind pr w) led).setOf g2 (by unfold scanBound; omega)) (fun q => by simp) rfl
        case done =>
          intro s' mv hS
          obtain ⟨h', g', d', tk', os'⟩ := s'
          have eg : g' = s.gens := mv.gens
          have ed : d' = s.drawn := mv.drawn
          have eo : os' = s.os := mv.os
          subst eg
          subst ed
          subst eo
          refine wpAny_pure ?_
          show wpAny _ _ (ret Value.none) _ _ _
          refine wpAny_pure ⟨rfl, h', tk', rfl, hS, fun b o hb e => ?_⟩
          have n1 : b ≠ s.heap.objs.size := Nat.ne_of_lt hb
          have n2 : b ≠ (s.heap.push (setOb led)).objs.size := by
            rw [Heap.size_push]
            exact Nat.ne_of_lt (Nat.lt_succ_of_lt hb)
          exact mv.heap b o (by simp only [List.mem_cons, List.mem_singleton, List.not_mem_nil, or_false, not_or]; exact ⟨n1, n2⟩) (Heap.get?_push_of_some _ (Heap.get?_push_of_some _ e))
      · cases r2 with
        | error e => exact hr2
        | ok fl2 =>
          cases fl2 with
          | ret r =>
            obtain ⟨rfl, h', tk, rfl, hS, hk⟩ := hr2
            repeat (any_goals (first | assumption | wp_step))
            exact fin _ _ hS hk
          | _ => exact hr2.elim
    | _ => exact hr.elim
end
section
variable {X : Cx}
def tLenSetT (K : PySem.W.Frag) (ta : TE) : TE := fun σ H Q => ta σ H fun x H1 => ∃ (l : Addr) (ys : List Str), x = V.ref l ∧ SqT K H1 l (ys.map V.str) ∧ ys.length < 64 ∧ Q (.int ((ddS ys).length : Nat)) H1
theorem pe_lenSetT {a : Expr} {ta : TE} {p p2 q pos : Pos} (hc : X.calm = true) (hg : Gl X "len") (hm : X.mg "len" = none) (hg2 : Gl X "set") (hm2 : X.mg "set" = none) (ha : PE X a ta)
    (na : starEach [a] X.env = (false, eval a X.env) :: starEach [] X.env := by rfl) : PE X (.Call (.Name "len" p) [.Call (.Name "set" p2) [a] [] q] [] pos) (tLenSetT X.K ta) := by
  refine ⟨fun pins s σ H Q I h => ?_⟩
  refine Call_ (ld_blt I hg hm boot_len ?_)
  refine callWith_builtin1 (args_cons ?_ rfl) rfl rfl
  refine Call_ (ld_blt I hg2 hm2 boot_set ?_)
  refine callWith_type1 (args_cons (thn (ha.run pins s σ H _ I h) fun v s1 ⟨x, H1, I1, r1, q1⟩ => args_nil ?_) na) na rfl
  obtain ⟨l, ys, rfl, hq, few, q1⟩ := q1
  cases r1
  obtain ⟨its, r, pl, hz⟩ := I1.tuple hq
  have small := ddS_len ys
  refine call_set_texts (I1.ok.hd hc) pl (ys := ys) (by simpa using strsAre_of r) few fun h' tk hS hk => ?_
  refine args_nil ?_
  obtain ⟨o, es, ep, t, ho, hex, hd, _, _, _, hf, hn⟩ := hS
  have I2 : Inv X pins σ H1 { s1 with heap := h', toks := tk } := I1.kept fun b o e => hk b o (Heap.lt_size e) e
  exact call_len_set ho hex hd hf (by rw [hn] <;> omega) ⟨.int ((ddS ys).length : Nat), H1, I2.tok _, ⟨_, by rw [hn]⟩, q1⟩
end
end L2

set_option Elab.async false
set_option linter.all false
set_option maxRecDepth 100000
set_option maxHeartbeats 4000000
/-! SetStr: len(set(z)), z a text. -/
namespace L2
open PySem PySem.Spec PyProof.Rows
def signsS (x : Str) : List Str := x.cps.toList.map fun c => ⟨#[c]⟩
section
variable {pr : Program} {w : World} {B : Around} {RR : Result → Shared → Prop} {it : Addr} {fq ww : List Addr} {GG : Array GenState → Array GenState → Prop} {m : Nat} {PP : Nat → Value → Prop} {TT : Nat → Shared → Prop}
theorem loop_signs (U : WalksS pr w B.in1 it fq ww GG m PP TT) (so : Addr) (hso : so ∉ fq) (ys : List Str) (hys : ys.length = m) (few : m < 4000) (hv : ∀ i v, PP i v → ∃ t, v = .str (ys.getD i Str.empty) t) :
    ∀ (left i : Nat) (s : Shared), m - i = left → i ≤ m → TT i s → s.heap.SetOf (strKind pr w) so (fun q => decide (q ∈ ys.take i)) (ddS (ys.take i)).length →
      (∀ s', Moved (so :: ww) GG s s' → s'.heap.SetOf (strKind pr w) so (fun q => decide (q ∈ ys)) (ddS ys).length → RR (.ok (.ret .none)) s') →
      codeAny (model pr w) B (.builtin "set.update.loop" ⟨[.ref so, .ref it], []⟩) RR s := by
  have now : so ∉ ww := fun h => hso (U.sub _ h)
  have sub2 : ∀ b ∈ ww, b ∈ so :: ww := fun b hb => List.mem_cons_of_mem _ hb
  intro left
  induction left with
  | zero =>
    intro i s hl hi ht hS hR
    obtain rfl : i = m := by omega
    rw [← hys, List.take_length] at hS
    refine codeAny_builtin F.entry_set_update_loop ?_
    rw [Around.under_plainId F.plain_set_update_loop _]
    refine wpAny_bind (U.done s _ _ ht fun s' mv => ?_)
    obtain ⟨o, es, ep, tb, ho, rest⟩ := hS
    exact wpAny_pure (hR s' (mv.mono sub2) ⟨o, es, ep, tb, mv.heap so _ now ho, rest⟩)
  | succ left ih =>
    intro i s hl hi ht hS hR
    have him : i < m := by omega
    refine codeAny_builtin F.entry_set_update_loop ?_
    rw [Around.under_plainId F.plain_set_update_loop _]
    refine wpAny_bind (U.item i s _ _ him ht fun v s' hP ht' mv => ?_)
    obtain ⟨t, rfl⟩ := hv i v hP
    have hS' : s'.heap.SetOf (strKind pr w) so (fun q => decide (q ∈ ys.take i)) (ddS (ys.take i)).length := by
      obtain ⟨o, es, ep, tb, ho, rest⟩ := hS
      exact ⟨o, es, ep, tb, mv.heap so _ now ho, rest⟩
    have hlen := ddS_len (ys.take i)
    rw [List.length_take] at hlen
    refine wpAny_bind (wpAny_holding ?_)
    unfold setAdd
    refine wpAny_holding ?_
    refine wpAny_bind ((strKind pr w).pyHash (k := ys.getD i Str.empty) (strKind_is _ _ _ _) ?_)
    refine wpAny_setAddHashed_of (knd := strKind pr w) (s := { s' with toks := s'.toks + 1 }) (strKind_is _ _ _ _) rfl hS' (by unfold scanBound; omega) fun h' sb hS2 => ?_
    have ey : ys.take (i + 1) = ys.take i ++ [ys.getD i Str.empty] := by
      rw [List.take_succ, List.getD_eq_getElem?_getD, List.getElem?_eq_getElem (by omega)]
      rfl
    have hS3 : h'.SetOf (strKind pr w) so (fun q => decide (q ∈ ys.take (i + 1))) (ddS (ys.take (i + 1))).length := by
      rw [ey]
      refine SetOf_congr hS2 (fun q => ?_) ?_
      · by_cases h1 : q ∈ ys.take i
        · simp [h1]
        · simp [h1]
      · rw [ddS_snoc]
        by_cases h1 : ys.getD i Str.empty ∈ ys.take i
        · rw [if_pos ((ddS_mem _ _).mpr h1), if_pos (by simpa using h1)]
        · rw [if_neg (fun z => h1 ((ddS_mem _ _).mp z)), if_neg (by simpa using h1), List.length_append]
          rfl
    refine wpAny_pure ⟨plainId_quiet F.plain_set_update_loop _, ih (i + 1) _ (by omega) him (U.frame _ s' _ _ ht' (Nat.le_succ _) fun b hb o e => ?_) hS3 fun s2 mv2 hS4 => ?_⟩
    · rw [sb.2 b (fun z : b = so => hso (by rw [← z]; exact hb))]
      exact e
    · refine hR s2 (Moved.trans U.gtrans ((mv.mono sub2).then_heap (Nat.le_succ _) fun b o hb e => ?_) mv2) hS4
      rw [sb.2 b (fun z : b = so => hb (by rw [z]; exact List.mem_cons_self))]
      exact e
end
section
variable {pr : Program} {w : World} {B : Around} {EE : Value → Shared → Prop} {s : Shared}
theorem call_set_sign {x : Str} {tx : Tok} {QQ : Value → Shared → Prop} (hd : B.handled = none) (few : x.cps.size < 4000)
    (fin : ∀ (h' : Heap) (tk : Nat), h'.SetOf (strKind pr w) s.heap.objs.size (fun q => decide (q ∈ signsS x)) (ddS (signsS x)).length → (∀ b o, b < s.heap.objs.size → s.heap.get? b = some o → h'.get? b = some o) → QQ (.ref s.heap.objs.size) { s with heap := h', toks := tk }) :
    wpAny (model pr w) B (call (.type "set") [.str x tx]) QQ EE s := by
  obtain ⟨cc, tl, mro⟩ := F.called_set.mro
  have md := F.called_set.made
  have sb := F.called_set.sub
  refine wpAny_call (codeAny_of_tree ?_)
  show wpAny _ _ (callAny (.type "set") _) _ _ _
  refine wpAny_pure ⟨Code.quiet_builtin _ (by decide +kernel), codeAny_builtin F.entry_type_call ?_⟩
  rw [Around.under_plain (weight_type_call_type "set" [.str x tx] []) rfl]
  have q1 := F.called_set.notType
  have q2 := F.called_set.canCreate
  have q3 := F.typeCall_set_1 (.str x tx)
  repeat (any_goals (first | assumption | wp_step))
  refine codeAny_mono (code_set_new_1 (.str x tx) (E := EE) (Q₁ := fun ob s1 => ∃ led : Bool, ob = .ref s.heap.objs.size ∧ s1 = { s with heap := s.heap.push (setOb led) }) fun led => ⟨led, rfl, rfl⟩) fun r s1 hr => ?_
  cases r with
  | error e => exact hr
  | ok fl =>
    cases fl with
    | ret ob =>
      obtain ⟨led, rfl, rfl⟩ := hr
      have gS : (s.heap.push (setOb led)).get? s.heap.objs.size = some (setOb led) := Heap.get?_push_size _ rfl
      have tS : Shared.TypeIs { s with heap := s.heap.push (setOb led) } (.ref s.heap.objs.size) "set" := ⟨_, gS, rfl⟩
      have i1 := F.called_set.init.lookup
      have i2 := F.called_set.init.bind (.ref s.heap.objs.size)
      repeat (any_goals (first | assumption | wp_step))
      refine codeAny_mono (codeAny_call_builtin (R := wants (fun r s2 => r = .none ∧ ∃ h' tk, s2 = { s with heap := h', toks := tk } ∧ h'.SetOf (strKind pr w) s.heap.objs.size (fun q => decide (q ∈ signsS x)) (ddS (signsS x)).length ∧ (∀ b o, b < s.heap.objs.size → s.heap.get? b = some o → h'.get? b = some o)) EE) F.called_set.init.plain F.entry_set_init (check_set_init_1 tS ?_)) fun r2 s2 hr2 => ?_
      · have u1 : (Value.type "str" == Value.type "dict") = false := by decide
        have u2 := F.sub_str_set
        have u3 := F.sub_str_frozenset
        unfold Builtin.«set.__init__» noKeywords Builtin.Frozenset.updateFrom
        generalize hPI : pyIter = PI
        wp_walk
        subst hPI
        refine wpAny_pyIter_str fun o St W st0 => ?_
        refine wpAny_bind (wpAny_runValue ?_)
        have hd3 : B.in1.in1.in1.handled = none := by simp [hd]
        have so1 : s.heap.objs.size ∉ [(s.heap.push (setOb led)).objs.size] := by
          rw [Heap.size_push]
          simp only [List.mem_cons, List.mem_singleton, List.not_mem_nil, or_false, not_or]
          exact Nat.ne_of_lt (Nat.lt_succ_self _)
        have len1 : (signsS x).length = x.cps.size := by rw [signsS, List.length_map, Array.length_toList]
        refine loop_signs ((W _ hd3).toS) s.heap.objs.size so1 (signsS x) len1 (by omega) (fun i v ⟨c, u, e1, e2⟩ => ⟨u, by rw [e2, signsS, List.getD_eq_getElem?_getD, List.getElem?_map, Array.getElem?_toList, e1]; rfl⟩) (x.cps.size - 0) 0 _ (by omega) (Nat.zero_le _)
          st0 ?start ?done
        case start =>
          have g2 : ((s.heap.push (setOb led)).push o).get? s.heap.objs.size = some (setOb led) := Heap.get?_push_of_some _ gS
          exact SetOf_congr ((setObjOf_fresh (knd := strKind pr w) led).setOf g2 (by unfold scanBound; omega)) (fun q => by simp) rfl
        case done =>
          intro s' mv hS
          obtain ⟨h', g', d', tk', os'⟩ := s'
          have eg : g' = s.gens := mv.gens
          have ed : d' = s.drawn := mv.drawn
          have eo : os' = s.os := mv.os
          subst eg
          subst ed
          subst eo
          refine wpAny_pure ?_
          show wpAny _ _ (ret Value.none) _ _ _
          refine wpAny_pure ⟨rfl, h', tk', rfl, hS, fun b o hb e => ?_⟩
          have n1 : b ≠ s.heap.objs.size := Nat.ne_of_lt hb
          have n2 : b ≠ (s.heap.push (setOb led)).objs.size := by
            rw [Heap.size_push]
            exact Nat.ne_of_lt (Nat.lt_succ_of_lt hb)
          exact mv.heap b o (by simp only [List.mem_cons, List.mem_singleton, List.not_mem_nil, or_false, not_or]; exact ⟨n1, n2⟩) (Heap.get?_push_of_some _ (Heap.get?_push_of_some _ e))
      · cases r2 with
        | error e => exact hr2
        | ok fl2 =>
          cases fl2 with
          | ret r =>
            obtain ⟨rfl, h', tk, rfl, hS, hk⟩ := hr2
            repeat (any_goals (first | assumption | wp_step))
            exact fin _ _ hS hk
          | _ => exact hr2.elim
    | _ => exact hr.elim
end
section
variable {X : Cx}
def tLenSetS (ta : TE) : TE := fun σ H Q => ta σ H fun x H1 => ∃ z : Str, x = V.str z ∧ z.cps.size < 4000 ∧ Q (.int ((ddS (signsS z)).length : Nat)) H1
theorem pe_lenSetS {a : Expr} {ta : TE} {p p2 q pos : Pos} (hc : X.calm = true) (hg : Gl X "len") (hm : X.mg "len" = none) (hg2 : Gl X "set") (hm2 : X.mg "set" = none) (ha : PE X a ta)
    (na : starEach [a] X.env = (false, eval a X.env) :: starEach [] X.env := by rfl) : PE X (.Call (.Name "len" p) [.Call (.Name "set" p2) [a] [] q] [] pos) (tLenSetS ta) := by
  refine ⟨fun pins s σ H Q I h => ?_⟩
  refine Call_ (ld_blt I hg hm boot_len ?_)
  refine callWith_builtin1 (args_cons ?_ rfl) rfl rfl
  refine Call_ (ld_blt I hg2 hm2 boot_set ?_)
  refine callWith_type1 (args_cons (thn (ha.run pins s σ H _ I h) fun v s1 ⟨x, H1, I1, r1, q1⟩ => args_nil ?_) na) na rfl
  obtain ⟨z, rfl, few, q1⟩ := q1
  obtain ⟨tk0, rfl⟩ := r1
  have small := ddS_len (signsS z)
  have sl : (signsS z).length = z.cps.size := by rw [signsS, List.length_map, Array.length_toList]
  refine call_set_sign (I1.ok.hd hc) few fun h' tk hS hk => ?_
  refine args_nil ?_
  obtain ⟨o, es, ep, t, ho, hex, hd, _, _, _, hf, hn⟩ := hS
  have I2 : Inv X pins σ H1 { s1 with heap := h', toks := tk } := I1.kept fun b o e => hk b o (Heap.lt_size e) e
  exact call_len_set ho hex hd hf (by rw [hn]; omega) ⟨.int ((ddS (signsS z)).length : Nat), H1, I2.tok _, ⟨_, by rw [hn]⟩, q1⟩
end
end L2

set_option Elab.async false
set_option linter.all false
set_option maxRecDepth 100000
set_option maxHeartbeats 4000000
/-! DataKit: sorted, min of data at any depth and length, as rules of the layer. -/
namespace L2
open PySem PySem.Spec PyProof.Rows
section
variable {X : Cx} {pins : List (Addr × Obj)} {σ : St} {H : Hp} {s : Shared}
theorem each_vals (I : Inv X pins σ H s) : ∀ {bs : List (V × PyData)} {us : List Value}, Vals (bs.map (·.1)) us → (∀ b ∈ bs, Dp X.K H b.1 b.2) → PySem.W.EachIs (fun v b => RelV b.1 v) us bs ∧ PySem.W.EachIs (fun v b => ∃ as, Reads s.heap v b.2 as) us bs
  | [], _, r, _ => by
    cases r
    exact ⟨.nil, .nil⟩
  | b :: bs, _, r, h => by
    cases r with
    | cons r1 r2 =>
      obtain ⟨e1, e2⟩ := each_vals I r2 fun c hc => h c (List.mem_cons_of_mem _ hc)
      exact ⟨.cons r1 e1, .cons (Dp.reads I _ _ _ (h b List.mem_cons_self) r1) e2⟩
theorem vals_each : ∀ {us : List Value} {bs : List (V × PyData)}, PySem.W.EachIs (fun v b => RelV b.1 v) us bs → Vals (bs.map (·.1)) us
  | _, _, .nil => .nil
  | _, _, .cons r t => .cons r (vals_each t)
/-- sorted(xs) of data that are alike -/
def rSortedD (K : PySem.W.Frag) : List V → Hp → VK → Prop := fun vs H Q => ∃ (a : Addr) (bs : List (V × PyData)), vs = [V.ref a] ∧ SqL K H a (bs.map (·.1)) ∧ (∀ b ∈ bs, Dp K H b.1 b.2) ∧ PySem.W.AllAlike (bs.map (·.2)) ∧ PySem.W.Sortable (bs.map (·.2)) ∧ (∀ b ∈ bs, b.2.depth ≤ 50) ∧
  ∀ p, H p = none → Q (.ref p) (upd H p (.lst ((bs.mergeSort (PySem.W.dataLe false (·.2))).map (·.1))))
theorem cr_sortedD (hu : X.A.units + 64 < cLine) : CallR X (.builtin "sorted") (rSortedD X.K) := by
  intro pins s σ H vs us Q I r h
  obtain ⟨a, bs, rfl, hs, hd, hal, hk, hdep, q⟩ := h
  obtain ⟨its, rv, hl, hz⟩ := I.list hs
  obtain ⟨u, rfl, ru⟩ := vals1 r
  obtain rfl : u = Value.ref a := ru
  obtain ⟨e1, e2⟩ := each_vals I rv hd
  rw [List.length_map] at hz
  refine PySem.W.sorted_data (enc := fun b : V × PyData => b.2) hl.isList e1 e2 hal hk hz (fun b hb => by have := hdep b hb; omega) fun out hlen ho => ?_
  obtain ⟨n, hn⟩ := sortedAll_at s.heap its out.toArray
  have rv2 := vals_each ho
  exact ⟨.ref (s.heap.objs.size + 1), _, I.laid (t' := s.toks) (a := s.heap.objs.size + 1) (o := .lst ((bs.mergeSort (PySem.W.dataLe false (·.2))).map (·.1))) (fun b o e => sortedAll_old e) (Nat.le_succ _) ⟨by rw [rv2.length, hlen]; exact hz, out, n, rv2, hn⟩, rfl, q _ (I.hok.fresh (Nat.le_succ _))⟩
/-- min(xs) of texts, one at least -/
def minS (x : Str) (xs : List Str) : Str := xs.foldl (fun a y => if decide (y.cps.toList < a.cps.toList) = true then y else a) x
theorem minD_strs (x : Str) : ∀ xs : List Str, PySem.W.minD (.str x) (xs.map PyData.str) = .str (minS x xs) := by
  intro xs
  induction xs generalizing x with
  | nil => rfl
  | cons y ys ih =>
    show PySem.W.minD (if PySem.W.dataLt (.str y) (.str x) = true then .str y else .str x) (ys.map PyData.str) = .str (minS (if decide (y.cps.toList < x.cps.toList) = true then y else x) ys)
    rw [PySem.W.dataLt_str]
    split
    · exact ih y
    · exact ih x
theorem reads_strs {h : Heap} : ∀ {xs : List Str} {us : List Value}, Vals (xs.map V.str) us → ∃ as, ReadsAll h us (xs.map PyData.str) as
  | [], _, r => by
    cases r
    exact ⟨_, .nil⟩
  | x :: xs, _, r => by
    cases r with
    | cons r1 r2 =>
      obtain ⟨t, rfl⟩ := r1
      obtain ⟨as, z⟩ := reads_strs (h := h) r2
      exact ⟨_, .cons (.str x t) z⟩
theorem depth_strs : ∀ xs : List Str, PyData.depthAll (xs.map PyData.str) ≤ 1
  | [] => by simp [PyData.depthAll]
  | x :: xs => by
    have := depth_strs xs
    simp only [List.map_cons, PyData.depthAll, PyData.depth]
    omega
def rMinS (K : PySem.W.Frag) : List V → Hp → VK → Prop := fun vs H Q => ∃ (a : Addr) (x : Str) (xs : List Str), vs = [V.ref a] ∧ SqL K H a ((x :: xs).map V.str) ∧ Q (.str (minS x xs)) H
theorem cr_minS (hc : X.calm = true) (hu : X.A.units + 64 < cLine) : CallR X (.builtin "min") (rMinS X.K) := by
  intro pins s σ H vs us Q I r h
  obtain ⟨a, x, xs, rfl, hs, q⟩ := h
  obtain ⟨its, rv, hl, hz⟩ := I.list hs
  obtain ⟨u, rfl, ru⟩ := vals1 r
  obtain rfl : u = Value.ref a := ru
  obtain ⟨as, hr⟩ := reads_strs (h := s.heap) rv
  have hdep := depth_strs (x :: xs)
  refine PySem.W.min_list_data (x := .str x) (xs := xs.map PyData.str) (I.ok.hd hc) hl.isList (by simpa using hr) ⟨fun y hy z hz => ?_, fun y hy => ?_⟩ (by have : PyData.depthAll (PyData.str x :: xs.map PyData.str) ≤ 1 := hdep; omega) fun i v h' tk bs hv hrd hk => ?_
  · obtain ⟨y', _, rfl⟩ := List.mem_map.mp (show y ∈ (x :: xs).map PyData.str from hy)
    obtain ⟨z', _, rfl⟩ := List.mem_map.mp (show z ∈ (x :: xs).map PyData.str from hz)
    simp [PySem.W.alike]
  · obtain ⟨y', _, rfl⟩ := List.mem_map.mp (show y ∈ (x :: xs).map PyData.str from hy)
    exact fun z => nomatch z
  · rw [minD_strs] at hrd
    cases hrd with
    | str _ t => exact ⟨.str (minS x xs), H, I.kept (t' := tk) hk, ⟨t, rfl⟩, q⟩
end
end L2

set_option Elab.async false
set_option linter.all false
set_option maxRecDepth 100000
set_option maxHeartbeats 4000000
/-! LsKit: lists of texts as data. -/
namespace L2
open PySem PySem.Spec PyProof.Rows
def lS (ts : List Str) : PyData := .list (ts.map PyData.str)
theorem dp_strs {K : PySem.W.Frag} {H : Hp} : ∀ ts : List Str, DpAll K H (ts.map V.str) (ts.map PyData.str)
  | [] => .nil
  | t :: ts => .cons (.str t) (dp_strs ts)
theorem dp_lS {K : PySem.W.Frag} {H : Hp} {a : Addr} {ts : List Str} (h : SqL K H a (ts.map V.str)) : Dp K H (.ref a) (lS ts) := .lst h (dp_strs ts)
theorem lay_strs : ∀ ts : List Str, (∀ t ∈ ts, PyData.strOk t = true) → PyData.canLayAll0 (ts.map PyData.str) = true
  | [], _ => by simp [PyData.canLayAll0]
  | t :: ts, h => by simp [PyData.canLayAll0, PyData.canLay0, lay_strs ts fun u hu => h u (List.mem_cons_of_mem _ hu), h t List.mem_cons_self]
theorem depth_strs0 : ∀ ts : List Str, PyData.depthAll (ts.map PyData.str) = 0
  | [] => by simp [PyData.depthAll]
  | t :: ts => by simp [PyData.depthAll, PyData.depth, depth_strs0 ts]
theorem shaped_lS (ts : List Str) (h : ∀ t ∈ ts, PyData.strOk t = true) : SeqAt.shaped (lS ts) = true := by
  simp [lS, SeqAt.shaped, PyData.canLay0, PyData.depth, lay_strs ts h, depth_strs0]
theorem eqvAll_strs : ∀ ts : List Str, PyData.eqvAll (ts.map PyData.str) (ts.map PyData.str) = true
  | [] => by simp [PyData.eqvAll]
  | t :: ts => by simp [PyData.eqvAll, PyData.eqv, eqvAll_strs ts]
theorem same_lS (ts : List Str) : PyData.eqv (lS ts) (lS ts) = true := by
  unfold lS
  simp only [PyData.eqv]
  exact eqvAll_strs ts
theorem strOk_sgn {c : Nat} (h : c < 128) : PyData.strOk (⟨#[c]⟩ : Str) = true := by
  have : ∀ c, c < 128 → PyData.strOk (⟨#[c]⟩ : Str) = true := by decide +kernel
  exact this c h
theorem shaped_sgn {z : Str} (h : ∀ c ∈ z.cps.toList, c < 128) : SeqAt.shaped (lS (sgn z)) = true := shaped_lS _ fun t ht => by
  obtain ⟨c, hc, rfl⟩ := List.mem_map.mp ht
  exact strOk_sgn (h c hc)
theorem shaped_perm {z : Str} {ys : List Str} (p : ys.Perm (sgn z)) (h : ∀ c ∈ z.cps.toList, c < 128) : SeqAt.shaped (lS ys) = true := shaped_lS _ fun t ht => by
  obtain ⟨c, hc, rfl⟩ := List.mem_map.mp (p.mem_iff.mp ht)
  exact strOk_sgn (h c hc)
theorem perm_pair {α : Type} {a b : α} {ys : List α} (p : ys.Perm [a, b]) : ys = [a, b] ∨ ys = [b, a] := by
  match ys, p.length_eq with
  | [u, v], _ =>
    have hu : u ∈ [a, b] := p.mem_iff.mp List.mem_cons_self
    rcases List.mem_cons.mp hu with rfl | hu
    · have q : [v].Perm [b] := p.cons_inv
      rw [List.perm_singleton.mp q]
      exact .inl rfl
    · rw [List.mem_singleton.mp hu] at p ⊢
      have q : [v].Perm [a] := (p.trans (List.Perm.swap b a [])).cons_inv
      rw [List.perm_singleton.mp q]
      exact .inr rfl
end L2

set_option Elab.async false
set_option linter.all false
set_option maxRecDepth 100000
set_option maxHeartbeats 4000000
namespace T74
open PySem PySem.Spec PyProof.Rows L2 EK
abbrev sIsText : Stmt := top 7
abbrev sIsWord : Stmt := top 8
abbrev sIsLs : Stmt := top 9
abbrev sIsSL : Stmt := top 10
abbrev sIsOver : Stmt := top 11
abbrev sCkText : Stmt := top 12
abbrev sCkSL : Stmt := top 13
abbrev sCkWO : Stmt := top 14
/-- a thing whose kind is known -/
inductive Pl (H : Hp) : V → Prop
  | non : Pl H .non
  | int (i : Int) : Pl H (.int i)
  | str (z : Str) : Pl H (.str z)
  | bl (b : Bool) : Pl H (.bl b)
  | tup {a : Addr} {xs : List V} (e : H a = some (.tup xs)) : Pl H (.ref a)
  | lst {a : Addr} {xs : List V} (e : H a = some (.lst xs)) : Pl H (.ref a)
  | dct {a : Addr} {kvs : List (Key × V)} (e : H a = some (.dK kvs)) : Pl H (.ref a)
theorem Pl.keep {H H' : Hp} {x : V} (h : Pl H x) (s : Same H H') : Pl H' x := by
  cases h with
  | non => exact .non
  | int i => exact .int i
  | str z => exact .str z
  | bl b => exact .bl b
  | tup e => exact .tup (s _ _ e)
  | lst e => exact .lst (s _ _ e)
  | dct e => exact .dct (s _ _ e)
theorem Pl.keepB {wl : Addr} {H H' : Hp} {x : V} (h : Pl H x) (s : KeepB wl H H') (n : x ≠ .ref wl) : Pl H' x := by
  cases h with
  | non => exact .non
  | int i => exact .int i
  | str z => exact .str z
  | bl b => exact .bl b
  | @tup a xs e => exact .tup (s _ _ e fun z => n (by rw [z]))
  | @lst a xs e => exact .lst (s _ _ e fun z => n (by rw [z]))
  | @dct a xs e => exact .dct (s _ _ e fun z => n (by rw [z]))
def isStrV : V → Bool
  | .str _ => true
  | _ => false
def isIntV : V → Bool
  | .int _ => true
  | .bl _ => true
  | _ => false
def isBlV : V → Bool
  | .bl _ => true
  | _ => false
theorem Pl.isStr {K : PySem.W.Frag} {H : Hp} {x : V} (h : Pl H x) : ∃ t, TyX K H x t ∧ PySem.W.kitOne K t (.type "str") = some (isStrV x) := by
  cases h with
  | non => exact ⟨_, .base .non, kit_ty (r := false) (by decide +kernel)⟩
  | int i => exact ⟨_, .base (.int i), kit_ty (r := false) (by decide +kernel)⟩
  | str z => exact ⟨_, .base (.str z), kit_ty (r := true) (by decide +kernel)⟩
  | bl b => exact ⟨_, .base (.bl b), kit_ty (r := false) (by decide +kernel)⟩
  | tup e => exact ⟨_, .base (.tup e), kit_ty (r := false) (by decide +kernel)⟩
  | lst e => exact ⟨_, .base (.lst e), kit_ty (r := false) (by decide +kernel)⟩
  | dct e => exact ⟨_, .base (.dK e), kit_ty (r := false) (by decide +kernel)⟩
def letS : Str := "abcdefghijklmnopqrstuvwxyz"
def isT (z : Str) : Bool := z.cps.toList.all fun c => decide (c ∈ letS.cps.toList)
structure TxtC (K : PySem.W.Frag) (mg : Str → Option Value) : Prop where
  isinstance : mg "isinstance" = none
  str : mg "str" = none
  all : mg "all" = none
  len : mg "len" = none
  set : mg "set" = none
  list : mg "list" = none
  tuple : mg "tuple" = none
  sorted : mg "sorted" = none
  letters : ∃ u, mg "LETTERS" = some u ∧ RelV (.str letS) u
def isW (z : Str) : Bool := isT z && decide (0 < z.cps.size)
def isLs (z : Str) : Bool := isT z && decide ((ddS (signsS z)).length = z.cps.size)
def over (z l : Str) : Bool := z.cps.toList.all fun c => decide (c ∈ l.cps.toList)
def spWhat (g : Str → Bool) : Sp := fun vs H Q _ => ∃ x, vs = [x] ∧ Pl H x ∧ ((∃ z, x = .str z ∧ z.cps.size ≤ 100 ∧ ∀ H', Same H H' → Q (.bl (g z)) H') ∨ (isStrV x = false ∧ Q (.bl false) H))
def goodT (g : Str → Bool) (x : V) : Prop := ∃ z, x = .str z ∧ z.cps.size ≤ 100 ∧ g z = true
def badT (g : Str → Bool) (x : V) : Prop := isStrV x = false ∨ ∃ z, x = .str z ∧ z.cps.size ≤ 100 ∧ g z = false
/-- x is refused: an error of the class at C, x its value under the name f -/
def noX (C : Addr) (f : Str) (H : Hp) (x : V) (E : XK) : Prop := ∀ H' d, Same H H' → H' d = none → E (.ref C) (some d) (upd H' d (.xd [(f, x)]))
theorem noX.keep {C : Addr} {f : Str} {H H1 : Hp} {x : V} {E : XK} (h : noX C f H x E) (s : Same H H1) : noX C f H1 x E := fun H2 d s2 hd => h H2 d (s.trans s2) hd
/-- the letters of z, sorted, are those of z: just if b -/
def srt (z : Str) (b : Bool) : Prop := ∀ ys : List Str, ys.Perm (sgn z) → sortedS ys = true → PyData.eqv (.list ((sgn z).map PyData.str)) (.list (ys.map PyData.str)) = b
def spSL : Sp := fun vs H Q _ => ∃ x, vs = [x] ∧ Pl H x ∧ ((isStrV x = false ∧ Q (.bl false) H) ∨ ∃ z, x = .str z ∧ z.cps.size ≤ 100 ∧ ((isLs z = false ∧ ∀ H', Same H H' → Q (.bl false) H') ∨ (isLs z = true ∧ ∃ b, srt z b ∧ ∀ H', Same H H' → Q (.bl b) H')))
def spOver : Sp := fun vs H Q _ => ∃ z l : Str, vs = [.str z, .str l] ∧ z.cps.size ≤ 100 ∧ ∀ H', Same H H' → Q (.bl (over z l)) H'
def spCk (C : Addr) (g : Str → Bool) : Sp := fun vs H Q E => ∃ x, vs = [x] ∧ Pl H x ∧ ((∃ z, x = .str z ∧ z.cps.size ≤ 100 ∧ g z = true ∧ ∀ H', Same H H' → Q .non H') ∨ (badT g x ∧ noX C "text" H x E))
def badSL (x : V) (t : Str) : Prop := isStrV x = false ∨ ∃ z, x = .str z ∧ z.cps.size ≤ 100 ∧ (isLs z = false ∨ (isLs z = true ∧ (srt z false ∨ (srt z true ∧ over t z = false))))
def goodSL (x : V) (t : Str) : Prop := ∃ z, x = .str z ∧ z.cps.size ≤ 100 ∧ isLs z = true ∧ srt z true ∧ over t z = true
def spCkSL (C : Addr) : Sp := fun vs H Q E => ∃ (x : V) (t : Str), vs = [x, .str t] ∧ Pl H x ∧ t.cps.size ≤ 100 ∧ ((goodSL x t ∧ ∀ H', Same H H' → Q .non H') ∨ (badSL x t ∧ noX C "text" H x E))
def spCkWO (C : Addr) : Sp := fun vs H Q E => ∃ (x : V) (l : Str), vs = [x, .str l] ∧ Pl H x ∧ ((goodT (fun z => isW z && over z l) x ∧ ∀ H', Same H H' → Q .non H') ∨ (badT (fun z => isW z && over z l) x ∧ noX C "text" H x E))
section
variable {P : Program} {w : World} {K : PySem.W.Frag} {mg : Str → Option Value} {base : Heap} {C iC : Addr}
theorem scIsText : FnScope ["value", "sign"] ["value"] (defScope sIsText) := ⟨rfl, rfl, rfl, by decide +kernel, rfl, by decide +kernel, by decide +kernel⟩
theorem scIsWord : FnScope ["value"] ["value"] (defScope sIsWord) := ⟨rfl, rfl, rfl, by decide +kernel, rfl, by decide +kernel, by decide +kernel⟩
theorem scIsLs : FnScope ["value"] ["value"] (defScope sIsLs) := ⟨rfl, rfl, rfl, by decide +kernel, rfl, by decide +kernel, by decide +kernel⟩
theorem scIsSL : FnScope ["value"] ["value"] (defScope sIsSL) := ⟨rfl, rfl, rfl, by decide +kernel, rfl, by decide +kernel, by decide +kernel⟩
theorem scIsOver : FnScope ["text", "letters", "letter"] ["text", "letters"] (defScope sIsOver) := ⟨rfl, rfl, rfl, by decide +kernel, rfl, by decide +kernel, by decide +kernel⟩
theorem ok_isText {f : Addr} {fd : FuncData} (F : Fun K "is_text" "is_text" sIsText f fd) (T : TxtC K mg) : FnOk P w K mg base CX0 1 f fd ["value"] (spWhat isT) := by
  refine F.ok scIsText (fun vs H Q E h => ?_) (fun cdv A outer s H vs Q E hr h => ?_)
  · obtain ⟨x, rfl, _⟩ := h
    rfl
  · obtain ⟨x, rfl, hp, k⟩ := h
    have nd := scIsText.nd
    refine ⟨_, (pss_one (ps_ret (pe_and (pe_callB call_isi (by rfl) T.isinstance (by decide +kernel) (pa_cons (pv 0) (pa_cons (pe_bltn (v := .ty "str") rfl T.str (by decide +kernel) rfl) pa_nil))) (pe_one (pe_callB (cr_all rfl) (by rfl) T.all (by decide +kernel) (pa_cons (pe_lc (own := [("sign", 1)]) (g := gName 1) (tt := tYes) rfl nd (pi_str (pv 0)) (blkOk_by (N := ["value", "sign"]) (sc := defScope sIsText) (by decide +kernel)) (fun _ _ _ _ _ => (pg_name (i := 1) nd rfl (Or.inl rfl))) (fun _ _ _ _ _ => pts_nil) (fun _ _ _ _ _ => (pe_cmpR op_in_sign (pv 1) (C8.pe_gc (by rfl) T.letters) (by rfl)))) pa_nil)))))), ?_⟩
    obtain ⟨t, ht, hk⟩ := hp.isStr (K := K)
    rcases k with ⟨z, rfl, hz, k⟩ | ⟨hs, k⟩
    · refine ⟨_, rfl, _, _, _, _, _, rfl, .ty _, ht, hk, _, rfl, _, rfl, z, rfl, fun D hD => lc_it (walk_str (z := z)) (fun i H' => Same H H' ∧ H' D = some (.lst (((z.cps.toList.take i).map fun c => decide (c ∈ letS.cps.toList)).map V.bl))) ⟨fun b o e => by rw [upd_ne (ne_of_none e hD)]; exact e, upd_same⟩ (fun _ _ _ _ => trivial) ?_ ?_⟩
      · rintro i y H1 H2 hi ⟨s1, d1⟩ ⟨rfl, c, hc, rfl⟩
        have hc' : z.cps.toList[i]? = some c := by rw [Array.getElem?_toList]; exact hc
        refine ⟨rfl, ?_⟩
        refine ⟨_, rfl, c, _, rfl, rfl, _, d1, ?_, fun b o e => ?_, ?_⟩
        · rw [List.length_map, List.length_map, List.length_take]
          have hl : z.cps.toList.length = z.cps.size := Array.length_toList
          have : i < 100 := by omega
          exact Nat.lt_of_le_of_lt (Nat.min_le_left _ _) (Nat.lt_trans this (by decide))
        · rw [upd_ne (ne_of_none e hD)]
          exact s1 _ _ e
        · rw [upd_same, List.take_succ, hc', List.map_append, List.map_append]
          rfl
      · rintro H1 ⟨s1, d1⟩
        rw [← Array.length_toList, List.take_length] at d1
        refine ⟨D, _, rfl, .of d1, ?_⟩
        have e : ((z.cps.toList.map fun c => decide (c ∈ letS.cps.toList)).all id) = isT z := by
          unfold isT
          rw [List.all_map]
          rfl
        rw [e]
        exact k H1 s1
    · rw [hs] at hk
      exact ⟨_, rfl, _, _, _, _, _, rfl, .ty _, ht, hk, _, rfl, k⟩
theorem ok_isWord {f fT : Addr} {fd fdT : FuncData} (F : Fun K "is_word" "is_word" sIsWord f fd) (T : TxtC K mg) (GT : FnOk P w K mg base CX0 1 fT fdT ["value"] (spWhat isT)) (gT : mg "is_text" = some (.ref fT)) (kT : PySem.W.keepIn K (.ref fT) = true) (bT : Binds K fdT ["value"] []) :
    FnOk P w K mg base CX0 2 f fd ["value"] (spWhat isW) := by
  refine F.ok scIsWord (fun vs H Q E h => ?_) (fun cdv A outer s H vs Q E hr h => ?_)
  · obtain ⟨x, rfl, _⟩ := h
    rfl
  · obtain ⟨x, rfl, hp, k⟩ := h
    have nd := scIsWord.nd
    have hr1 : Room 1 _ := hr
    refine ⟨_, (pss_one (ps_ret (pe_and (pe_call GT hr1 rfl gT kT bT .nil pass0 (pa_cons (pv 0) pa_nil)) (pe_one (pe_cmpR op_gt (pe_callB call_len_str (by rfl) T.len (by decide +kernel) (pa_cons (pv 0) pa_nil)) pe_int (nomark _)))))), ?_⟩
    rcases k with ⟨z, rfl, hz, k⟩ | ⟨hs, k⟩
    · refine ⟨_, rfl, _, rfl, hp, .inl ⟨z, rfl, hz, fun H1 s1 => ⟨_, rfl, ?_⟩⟩⟩
      have k1 := k H1 s1
      unfold isW at k1
      by_cases hT : isT z = true
      · rw [hT] at k1 ⊢
        refine ⟨_, rfl, z, rfl, Nat.le_trans hz (by decide), _, _, rfl, rfl, ?_⟩
        have e : decide ((0 : Int) < ((z.length : Nat) : Int)) = decide (0 < z.cps.size) := by
          have zl : (z.length : Nat) = z.cps.size := rfl
          by_cases h : 0 < z.cps.size
          · rw [decide_eq_true h, decide_eq_true (by omega)]
          · rw [decide_eq_false h, decide_eq_false (by omega)]
        show Q (.bl (decide ((0 : Int) < ((z.length : Nat) : Int)))) H1
        rw [e]
        simpa using k1
      · rw [Bool.not_eq_true] at hT
        rw [hT] at k1 ⊢
        exact k1
    · exact ⟨_, rfl, _, rfl, hp, .inr ⟨hs, _, rfl, k⟩⟩
theorem ok_isLs {f fT : Addr} {fd fdT : FuncData} (F : Fun K "is_letters" "is_letters" sIsLs f fd) (T : TxtC K mg) (GT : FnOk P w K mg base CX0 1 fT fdT ["value"] (spWhat isT)) (gT : mg "is_text" = some (.ref fT)) (kT : PySem.W.keepIn K (.ref fT) = true) (bT : Binds K fdT ["value"] []) :
    FnOk P w K mg base CX0 2 f fd ["value"] (spWhat isLs) := by
  refine F.ok scIsLs (fun vs H Q E h => ?_) (fun cdv A outer s H vs Q E hr h => ?_)
  · obtain ⟨x, rfl, _⟩ := h
    rfl
  · obtain ⟨x, rfl, hp, k⟩ := h
    have nd := scIsLs.nd
    have hr1 : Room 1 _ := hr
    refine ⟨_, (pss_one (ps_ret (pe_and (pe_call GT hr1 rfl gT kT bT .nil pass0 (pa_cons (pv 0) pa_nil)) (pe_one (pe_cmpR op_eq (pe_lenSetS rfl (by rfl) T.len (by rfl) T.set (pv 0)) (pe_callB call_len_str (by rfl) T.len (by decide +kernel) (pa_cons (pv 0) pa_nil)) (nomark _)))))), ?_⟩
    rcases k with ⟨z, rfl, hz, k⟩ | ⟨hs, k⟩
    · refine ⟨_, rfl, _, rfl, hp, .inl ⟨z, rfl, hz, fun H1 s1 => ⟨_, rfl, ?_⟩⟩⟩
      have k1 := k H1 s1
      unfold isLs at k1
      by_cases hT : isT z = true
      · rw [hT] at k1 ⊢
        refine ⟨_, rfl, z, rfl, by omega, _, rfl, z, rfl, Nat.le_trans hz (by decide), rfl, ?_⟩
        have e : decide (V.int ((ddS (signsS z)).length : Nat) = V.int ((z.length : Nat) : Int)) = decide ((ddS (signsS z)).length = z.cps.size) := by
          have zl : (z.length : Nat) = z.cps.size := rfl
          by_cases h : (ddS (signsS z)).length = z.cps.size
          · rw [decide_eq_true h, decide_eq_true (by rw [zl, h])]
          · rw [decide_eq_false h, decide_eq_false]
            intro q
            injection q with q
            exact h (by omega)
        show Q (.bl (decide (V.int ((ddS (signsS z)).length : Nat) = V.int ((z.length : Nat) : Int)))) H1
        rw [e]
        simpa using k1
      · rw [Bool.not_eq_true] at hT
        rw [hT] at k1 ⊢
        exact k1
    · exact ⟨_, rfl, _, rfl, hp, .inr ⟨hs, _, rfl, k⟩⟩
theorem ok_IsOver {f : Addr} {fd : FuncData} (F : Fun K "is_over" "is_over" sIsOver f fd) (T : TxtC K mg) : FnOk P w K mg base CX0 1 f fd ["text", "letters"] spOver := by
  refine F.ok scIsOver (fun vs H Q E h => ?_) (fun cdv A outer s H vs Q E hr h => ?_)
  · obtain ⟨z, l, rfl, _⟩ := h
    rfl
  · obtain ⟨z, l, rfl, hz, k⟩ := h
    have nd := scIsOver.nd
    refine ⟨_, (pss_one (ps_ret (pe_callB (cr_all rfl) (by rfl) T.all (by decide +kernel) (pa_cons (pe_lc (own := [("letter", 2)]) (g := gName 2) (tt := tYes) rfl nd (pi_str (pv 0)) (blkOk_by (N := ["text", "letters", "letter"]) (sc := defScope sIsOver) (by decide +kernel)) (fun _ _ _ _ _ => (pg_name (i := 2) nd rfl (Or.inl rfl))) (fun _ _ _ _ _ => pts_nil) (fun _ _ _ _ _ => (pe_cmpR op_in_sign (pv 2) (pv 1) (by rfl)))) pa_nil)))), ?_⟩
    refine ⟨_, rfl, z, rfl, fun D hD => lc_it (walk_str (z := z)) (fun i H' => Same H H' ∧ H' D = some (.lst (((z.cps.toList.take i).map fun c => decide (c ∈ l.cps.toList)).map V.bl))) ⟨fun b o e => by rw [upd_ne (ne_of_none e hD)]; exact e, upd_same⟩ (fun _ _ _ _ => trivial) ?_ ?_⟩
    · rintro i y H1 H2 hi ⟨s1, d1⟩ ⟨rfl, c, hc, rfl⟩
      have hc' : z.cps.toList[i]? = some c := by rw [Array.getElem?_toList]; exact hc
      refine ⟨rfl, ?_⟩
      refine ⟨_, rfl, _, rfl, c, _, rfl, rfl, _, d1, ?_, fun b o e => ?_, ?_⟩
      · rw [List.length_map, List.length_map, List.length_take]
        have hl : z.cps.toList.length = z.cps.size := Array.length_toList
        have : i < 100 := by omega
        exact Nat.lt_of_le_of_lt (Nat.min_le_left _ _) (Nat.lt_trans this (by decide))
      · rw [upd_ne (ne_of_none e hD)]
        exact s1 _ _ e
      · rw [upd_same, List.take_succ, hc', List.map_append, List.map_append]
        rfl
    · rintro H1 ⟨s1, d1⟩
      rw [← Array.length_toList, List.take_length] at d1
      refine ⟨D, _, rfl, .of d1, ?_⟩
      have e : ((z.cps.toList.map fun c => decide (c ∈ l.cps.toList)).all id) = over z l := by
        unfold over
        rw [List.all_map]
        rfl
      rw [e]
      exact k H1 s1
theorem low_T {z : Str} (h : isT z = true) : ∀ c ∈ z.cps.toList, c < 128 := fun c hc => by
  have e := List.all_eq_true.mp h c hc
  have m : c ∈ letS.cps.toList := of_decide_eq_true e
  have a : ∀ c ∈ letS.cps.toList, c < 128 := by decide +kernel
  exact a c m
theorem Ls_T {z : Str} (h : isLs z = true) : isT z = true := (Bool.and_eq_true_iff.mp h).1
theorem srt_ab : srt "ab" true := fun ys p s => by
  rcases perm_pair (a := (⟨#[97]⟩ : Str)) (b := ⟨#[98]⟩) p with rfl | rfl
  · exact same_lS _
  · exact absurd s (by decide +kernel)
theorem srt_ba : srt "ba" false := fun ys p s => by
  rcases perm_pair (a := (⟨#[98]⟩ : Str)) (b := ⟨#[97]⟩) p with rfl | rfl
  · exact absurd s (by decide +kernel)
  · simp [sgn, PyData.eqv, PyData.eqvAll]
    decide +kernel
theorem srt_nil : srt "" true := fun ys p s => by
  have e : ys = [] := List.perm_nil.mp p
  subst e
  exact same_lS _
theorem ok_IsSL {f fLs : Addr} {fd fdLs : FuncData} (F : Fun K "is_sorted_letters" "is_sorted_letters" sIsSL f fd) (T : TxtC K mg)
    (GLs : FnOk P w K mg base CX0 2 fLs fdLs ["value"] (spWhat isLs)) (gLs : mg "is_letters" = some (.ref fLs)) (kLs : PySem.W.keepIn K (.ref fLs) = true) (bLs : Binds K fdLs ["value"] []) :
    FnOk P w K mg base CX0 3 f fd ["value"] spSL := by
  refine F.ok scIsSL (fun vs H Q E h => ?_) (fun cdv A outer s H vs Q E hr h => ?_)
  · obtain ⟨x, rfl, _⟩ := h
    rfl
  · obtain ⟨x, rfl, hp, k⟩ := h
    have nd := scIsSL.nd
    have hu : (A.deeper (PyProof.Rows.envOfC "is_sorted_letters" (defScope sIsSL) s.heap.objs.size f cdv)).units + 64 < cLine := hr.units
    have hr2 : Room 2 _ := hr
    refine ⟨_, pss_one (ps_ret (pe_and (pe_call GLs hr2 rfl gLs kLs bLs .nil pass0 (pa_cons (pv 0) pa_nil)) (pe_one (pe_cmpR (op_eqD hu) (pe_callTy (call_listS rfl) (by rfl) T.list (by decide +kernel) (pa_cons (pv 0) pa_nil)) (pe_callB (cr_sortedStr rfl) (by rfl) T.sorted (by decide +kernel) (pa_cons (pv 0) pa_nil)) (nomark _))))), ?_⟩
    rcases k with ⟨hs, k⟩ | ⟨z, rfl, hz, ⟨hl, k⟩ | ⟨hl, b, hb, k⟩⟩
    · exact ⟨_, rfl, _, rfl, hp, .inr ⟨hs, _, rfl, k⟩⟩
    · exact ⟨_, rfl, _, rfl, hp, .inl ⟨z, rfl, hz, fun H1 s1 => ⟨_, rfl, by rw [hl]; exact k H1 s1⟩⟩⟩
    · refine ⟨_, rfl, _, rfl, hp, .inl ⟨z, rfl, hz, fun H1 s1 => ⟨_, rfl, ?_⟩⟩⟩
      rw [hl]
      refine ⟨_, rfl, z, rfl, by omega, fun p1 n1 => ?_⟩
      obtain ⟨H2, e2, S2, A2⟩ := alloc (o := .lst (z.cps.toList.map fun c => V.str ⟨#[c]⟩)) n1
      rw [e2]
      refine ⟨_, rfl, z, rfl, by omega, fun ys p2 hp2 hs2 n2 => ?_⟩
      obtain ⟨H3, e3, S3, A3⟩ := alloc (o := .lst (ys.map V.str)) n2
      rw [e3]
      have A2' : H2 p1 = some (.lst ((sgn z).map V.str)) := by
        rw [A2, sgn, List.map_map]
        rfl
      have lo := low_T (Ls_T hl)
      refine ⟨lS (sgn z), lS ys, dp_lS (.of (S3 _ _ A2')), dp_lS (.of A3), shaped_sgn lo, shaped_perm hp2 lo, ?_⟩
      rw [show PyData.eqv (lS (sgn z)) (lS ys) = b from hb ys hp2 hs2]
      exact k H3 ((s1.trans S2).trans S3)
theorem scCkText : FnScope ["text"] ["text"] (defScope sCkText) := ⟨rfl, rfl, rfl, by decide +kernel, rfl, by decide +kernel, by decide +kernel⟩
theorem ok_CkText {f fU : Addr} {fd fdU : FuncData} (F : Fun K "check_text" "check_text" sCkText f fd) (TX : ErrTxt P K mg "NoText" "text" C iC)
    (GU : FnOk P w K mg base CX0 1 fU fdU ["value"] (spWhat isT)) (gU : mg "is_text" = some (.ref fU)) (kU : PySem.W.keepIn K (.ref fU) = true) (bU : Binds K fdU ["value"] []) :
    FnOk P w K mg base (L2.CX P w) 4 f fd ["text"] (spCk C isT) := by
  refine F.okX scCkText (fun vs H Q E h => ?_) (fun cdv A outer s H vs Q E hr h => ?_)
  · obtain ⟨x, rfl, _⟩ := h
    rfl
  · obtain ⟨x, rfl, hp, k⟩ := h
    have nd := scCkText.nd
    have hr2 : Room 1 _ := hr.mono (by decide)
    refine ⟨_, pss_one (ps_if (pt_not (pt_val (pe_call GU hr2 rfl gU kU bU .nil pass0 (pa_cons (pv 0) pa_nil)))) (pss_one (ps_raiseErr rfl TX hr (takes_of rfl rfl rfl rfl) (pa_cons (pv 0) pa_nil) rfl)) pss_nil), ?_⟩
    rcases k with ⟨z, rfl, hz, hb, k⟩ | ⟨hs | ⟨z, rfl, hz, hb⟩, k⟩
    · exact ⟨_, rfl, _, rfl, hp, .inl ⟨z, rfl, hz, fun H1 s1 => ⟨_, rfl, by rw [hb]; exact k H1 s1⟩⟩⟩
    · exact ⟨_, rfl, _, rfl, hp, .inr ⟨hs, _, rfl, _, rfl, x, rfl, fun d hd => k _ d (.refl _) hd⟩⟩
    · exact ⟨_, rfl, _, rfl, hp, .inl ⟨z, rfl, hz, fun H1 s1 => ⟨_, rfl, by rw [hb]; exact ⟨_, rfl, _, rfl, fun d hd => k _ d s1 hd⟩⟩⟩⟩
theorem scCkSL : FnScope ["letters", "text"] ["letters", "text"] (defScope sCkSL) := ⟨rfl, rfl, rfl, by decide +kernel, rfl, by decide +kernel, by decide +kernel⟩
theorem ok_CkSL {f fSL fOv : Addr} {fd fdSL fdOv : FuncData} (F : Fun K "check_sorted_letters" "check_sorted_letters" sCkSL f fd) (TX : ErrTxt P K mg "NoText" "text" C iC)
    (GSL : FnOk P w K mg base CX0 3 fSL fdSL ["value"] (spSL)) (gSL : mg "is_sorted_letters" = some (.ref fSL)) (kSL : PySem.W.keepIn K (.ref fSL) = true) (bSL : Binds K fdSL ["value"] []) (GOv : FnOk P w K mg base CX0 1 fOv fdOv ["text", "letters"] (spOver)) (gOv : mg "is_over" = some (.ref fOv)) (kOv : PySem.W.keepIn K (.ref fOv) = true) (bOv : Binds K fdOv ["text", "letters"] []) :
    FnOk P w K mg base (L2.CX P w) 4 f fd ["letters", "text"] (spCkSL C) := by
  refine F.okX scCkSL (fun vs H Q E h => ?_) (fun cdv A outer s H vs Q E hr h => ?_)
  · obtain ⟨x, t, rfl, _⟩ := h
    rfl
  · obtain ⟨x, t, rfl, hp, ht, k⟩ := h
    have nd := scCkSL.nd
    have hr1 : Room 1 _ := hr.mono (by decide)
    have hr3 : Room 3 _ := hr
    refine ⟨_, pss_one (ps_if (PW.pt (pw_or (pt_not (pt_val (pe_call GSL hr3 rfl gSL kSL bSL .nil pass0 (pa_cons (pv 0) pa_nil)))) (pw_or1 (pt_not (pt_val (pe_call GOv hr1 rfl gOv kOv bOv .nil pass0 (pa_cons (pv 1) (pa_cons (pv 0) pa_nil)))))))) (pss_one (ps_raiseErr rfl TX hr (takes_of rfl rfl rfl rfl) (pa_cons (pv 0) pa_nil) rfl)) pss_nil), ?_⟩
    rcases k with ⟨⟨z, rfl, hz, hl, hs, ho⟩, k⟩ | ⟨hb, k⟩
    · refine ⟨_, rfl, _, rfl, hp, .inr ⟨z, rfl, hz, .inr ⟨hl, true, hs, fun H1 s1 => ⟨_, rfl, ?_⟩⟩⟩⟩
      refine ⟨_, rfl, _, rfl, t, z, rfl, ht, fun H2 s2 => ⟨_, rfl, ?_⟩⟩
      rw [ho]
      exact k _ (s1.trans s2)
    rcases hb with hs | ⟨z, rfl, hz, hl | ⟨hl, hs | ⟨hs, ho⟩⟩⟩
    · exact ⟨_, rfl, _, rfl, hp, .inl ⟨hs, _, rfl, _, rfl, x, rfl, fun d hd => k _ d (.refl _) hd⟩⟩
    · exact ⟨_, rfl, _, rfl, hp, .inr ⟨z, rfl, hz, .inl ⟨hl, fun H1 s1 => ⟨_, rfl, _, rfl, _, rfl, fun d hd => k _ d s1 hd⟩⟩⟩⟩
    · exact ⟨_, rfl, _, rfl, hp, .inr ⟨z, rfl, hz, .inr ⟨hl, false, hs, fun H1 s1 => ⟨_, rfl, _, rfl, _, rfl, fun d hd => k _ d s1 hd⟩⟩⟩⟩
    · refine ⟨_, rfl, _, rfl, hp, .inr ⟨z, rfl, hz, .inr ⟨hl, true, hs, fun H1 s1 => ⟨_, rfl, ?_⟩⟩⟩⟩
      refine ⟨_, rfl, _, rfl, t, z, rfl, ht, fun H2 s2 => ⟨_, rfl, ?_⟩⟩
      rw [ho]
      exact ⟨_, rfl, _, rfl, fun d hd => k _ d (s1.trans s2) hd⟩
theorem scCkWO : FnScope ["word", "letters"] ["word", "letters"] (defScope sCkWO) := ⟨rfl, rfl, rfl, by decide +kernel, rfl, by decide +kernel, by decide +kernel⟩
theorem ok_CkWO {f fWd fOv : Addr} {fd fdWd fdOv : FuncData} (F : Fun K "check_word_over" "check_word_over" sCkWO f fd) (TX : ErrTxt P K mg "NoText" "text" C iC)
    (GWd : FnOk P w K mg base CX0 2 fWd fdWd ["value"] (spWhat isW)) (gWd : mg "is_word" = some (.ref fWd)) (kWd : PySem.W.keepIn K (.ref fWd) = true) (bWd : Binds K fdWd ["value"] []) (GOv : FnOk P w K mg base CX0 1 fOv fdOv ["text", "letters"] (spOver)) (gOv : mg "is_over" = some (.ref fOv)) (kOv : PySem.W.keepIn K (.ref fOv) = true) (bOv : Binds K fdOv ["text", "letters"] []) :
    FnOk P w K mg base (L2.CX P w) 4 f fd ["word", "letters"] (spCkWO C) := by
  refine F.okX scCkWO (fun vs H Q E h => ?_) (fun cdv A outer s H vs Q E hr h => ?_)
  · obtain ⟨x, t, rfl, _⟩ := h
    rfl
  · obtain ⟨x, l, rfl, hp, hgb⟩ := h
    have nd := scCkWO.nd
    have hr1 : Room 1 _ := hr.mono (by decide)
    have hr2 : Room 2 _ := hr.mono (by decide)
    refine ⟨_, pss_one (ps_if (PW.pt (pw_or (pt_not (pt_val (pe_call GWd hr2 rfl gWd kWd bWd .nil pass0 (pa_cons (pv 0) pa_nil)))) (pw_or1 (pt_not (pt_val (pe_call GOv hr1 rfl gOv kOv bOv .nil pass0 (pa_cons (pv 0) (pa_cons (pv 1) pa_nil)))))))) (pss_one (ps_raiseErr rfl TX hr (takes_of rfl rfl rfl rfl) (pa_cons (pv 0) pa_nil) rfl)) pss_nil), ?_⟩
    rcases hgb with ⟨⟨z, rfl, hz, hg⟩, k⟩ | ⟨hb, k⟩
    · replace hg : (isW z && over z l) = true := hg
      rw [Bool.and_eq_true] at hg
      refine ⟨_, rfl, _, rfl, hp, .inl ⟨z, rfl, hz, fun H1 s1 => ⟨_, rfl, ?_⟩⟩⟩
      rw [hg.1]
      refine ⟨_, rfl, _, rfl, z, l, rfl, hz, fun H2 s2 => ⟨_, rfl, ?_⟩⟩
      rw [hg.2]
      exact k _ (s1.trans s2)
    rcases hb with hs | ⟨z, rfl, hz, hb⟩
    · exact ⟨_, rfl, _, rfl, hp, .inr ⟨hs, _, rfl, _, rfl, x, rfl, fun d hd => k _ d (.refl _) hd⟩⟩
    · refine ⟨_, rfl, _, rfl, hp, .inl ⟨z, rfl, hz, fun H1 s1 => ⟨_, rfl, ?_⟩⟩⟩
      replace hb : (isW z && over z l) = false := hb
      by_cases hl : isW z = true
      · rw [hl] at hb ⊢
        rw [Bool.true_and] at hb
        refine ⟨_, rfl, _, rfl, z, l, rfl, hz, fun H2 s2 => ⟨_, rfl, ?_⟩⟩
        rw [hb]
        exact ⟨_, rfl, _, rfl, fun d hd => k _ d (s1.trans s2) hd⟩
      · rw [Bool.not_eq_true] at hl
        rw [hl]
        exact ⟨_, rfl, _, rfl, fun d hd => k _ d s1 hd⟩
end
end T74

set_option Elab.async false
set_option linter.all false
set_option maxRecDepth 100000
set_option maxHeartbeats 4000000
/-! StrSet: a set of texts whose table can be walked; sorted(set(texts)). -/
namespace L2
open PySem PySem.Spec PyProof.Rows
def textOf (x : Int × Value) : Str := match x.2 with | .str z _ => z | _ => Str.empty
/-- the entry of a text -/
def TextE (P : Program) (w : World) (x : Int × Value) : Prop := ∃ z tk, x = ((strKind P w).hash z, Value.str z tk)
/-- the set at d holds these texts, no two alike -/
def TxSet (P : Program) (w : World) (hp : Heap) (d : Addr) (ks : List Str) : Prop :=
  ∃ ob arr age tab, hp.get? d = some ob ∧ ob.ExactSet ∧ ob.data = .set arr age tab ∧ (∀ x ∈ arr.toList, TextE P w x) ∧ (arr.toList.map textOf).Perm ks ∧ ks.Nodup ∧ arr.size < scanBound ∧
    tab.fits arr.size = true ∧ Ris tab.place.toList ∧ (w.params.followText "set-order" = true ∨ tab.led = true)
section
variable {P : Program} {w : World} {hp : Heap} {d : Addr} {ks : List Str}
theorem text_is {x : Int × Value} (e : TextE P w x) (k : Str) : (strKind P w).is k x.2 = true ↔ textOf x = k := by
  obtain ⟨z, tk, rfl⟩ := e
  show (strKind P w).is k (.str z tk) = true ↔ z = k
  constructor
  · intro q
    have : (z == k) = true := q
    exact beq_iff_eq.mp this
  · rintro rfl
    exact strKind_is _ _ _ _
theorem texts_elems {l : List (Int × Value)} (e : ∀ x ∈ l, TextE P w x) : ElemsOf (strKind P w) l := fun x hx => by
  obtain ⟨z, tk, rfl⟩ := e x hx
  exact ⟨⟨z, strKind_is _ _ _ _, rfl⟩, rfl⟩
end
section
variable {P : Program} {w : World} {A : Around} {E : Value → Shared → Prop} {s : Shared} {d : Addr} {ks : List Str}
theorem put_set {hp : Heap} {d : Addr} {ob : Obj} {arr arr' : Array (Int × Value)} {age : Nat} {tab tab' : SetTable} (live : hp.get? d = some ob) (dat : ob.data = .set arr age tab) :
    (hp.update d (Obj.putSet arr' tab')).get? d = some { ob with data := .set arr' (age + 1) tab' } := store_at live dat
/-- behind the table's new row: stored, and laid anew if it is too full -/
theorem tset_tail {gave : Bool → Sem Unit} (quiet : ∀ (b : Bool) (s1 : Shared) (QQ : Unit → Shared → Prop), QQ () s1 → wpAny (model P w) A (gave b) QQ E s1)
    {ob : Obj} {arr : Array (Int × Value)} {age : Nat} {tab : SetTable} (live : s.heap.get? d = some ob) (kind : ob.ExactSet) (dat : ob.data = .set arr age tab)
    {arr1 : Array (Int × Value)} {tab1 : SetTable} {ks1 : List Str} (ents : ∀ x ∈ arr1.toList, TextE P w x) (keys : (arr1.toList.map textOf).Perm ks1) (nodup : ks1.Nodup) (few : arr1.size < scanBound)
    (fits : tab1.fits arr1.size = true) (ris : Ris tab1.place.toList) (led : w.params.followText "set-order" = true ∨ tab1.led = true) {dummy : Bool} {R : Option Bool → Shared → Prop}
    (fin : ∀ h', Heap.SameBut d s.heap h' → TxSet P w h' d ks1 → R (some true) { s with heap := h' }) :
    wpAny (model P w) A (do
        storeSet d arr1 tab1
        if (!dummy && tab1.tooFull) = true then do
            gave (relayAll tab1 arr1 (SetTable.grown arr1.size)).2.2
            storeSet d (relayAll tab1 arr1 (SetTable.grown arr1.size)).1 (relayAll tab1 arr1 (SetTable.grown arr1.size)).2.1
            pure (some true)
          else pure (some true)) R E s := by
  have p1 := put_set (arr' := arr1) (tab' := tab1) live dat
  have same1 := Heap.SameBut.update s.heap d (Obj.putSet arr1 tab1)
  refine wpAny_bind (wpAny_storeSet_of live dat ?_ (fits_of_scanBound few))
  by_cases full : (!dummy && tab1.tooFull) = true
  · rw [if_pos full]
    have c1 := relayAll_perm tab1 arr1 (SetTable.grown arr1.size)
    have c2 := relayAll_fits tab1 arr1 (SetTable.grown arr1.size)
    have c3 := relayAll_ris tab1 arr1 (SetTable.grown arr1.size)
    have c4 := relayAll_led tab1 arr1 (SetTable.grown arr1.size)
    generalize relayAll tab1 arr1 (SetTable.grown arr1.size) = lay at c1 c2 c3 c4 ⊢
    obtain ⟨arr2, tab2, gv⟩ := lay
    dsimp only at c1 c2 c3 c4 ⊢
    have size2 : arr2.size = arr1.size := by rw [← Array.length_toList, ← Array.length_toList, c1.length_eq]
    refine wpAny_bind (quiet _ _ _ ?_)
    refine wpAny_bind (wpAny_storeSet_of p1 rfl ?_ (fits_of_scanBound (by rw [size2]; exact few)))
    refine wpAny_pure (fin _ (same1.trans (Heap.SameBut.update _ d _)) ⟨_, arr2, _, tab2, put_set p1 rfl, kind, rfl, fun x hx => ents x (c1.mem_iff.mp hx), (c1.map textOf).trans keys, nodup, by rw [size2]; exact few, c2, c3, ?_⟩)
    rcases led with l | l
    · exact .inl l
    · exact .inr (by rw [c4]; exact l)
  · rw [if_neg full]
    exact wpAny_pure (fin _ same1 ⟨_, arr1, _, tab1, p1, kind, rfl, ents, keys, nodup, few, fits, ris, led⟩)
theorem tset_add {z : Str} {tk : Tok} {QQ : Bool → Shared → Prop} (R : TxSet P w s.heap d ks) (room : ks.length + 1 < scanBound)
    (fin : ∀ (b : Bool) h', Heap.SameBut d s.heap h' → TxSet P w h' d (if z ∈ ks then ks else ks ++ [z]) → QQ b { s with heap := h' }) :
    wpAny (model P w) A (setAddHashed d (.str z tk) ((strKind P w).hash z)) QQ E s := by
  obtain ⟨ob, arr, age, tab, live, kind, dat, ents, keys, nodup, few, fits, ris, led⟩ := R
  have isz : (strKind P w).is z (.str z tk) = true := strKind_is _ _ _ _
  have scan : (Value.str z tk).scannable = true := rfl
  have elems := texts_elems ents
  have mem : z ∈ ks ↔ ∃ x ∈ arr.toList, (strKind P w).is z x.2 = true := by
    rw [← keys.mem_iff, List.mem_map]
    exact ⟨fun ⟨x, hx, e⟩ => ⟨x, hx, (text_is (ents x hx) z).mpr e⟩, fun ⟨x, hx, e⟩ => ⟨x, hx, (text_is (ents x hx) z).mp e⟩⟩
  have size : arr.size = ks.length := by rw [← keys.length_eq, List.length_map, Array.length_toList]
  unfold setAddHashed setAddHashedIn
  refine wpAny_holding (wpAny_bind (wpAny_setState_of live dat fits ?_))
  dsimp only
  rw [byScan_of scan few elems, if_pos rfl]
  unfold setAddByScan
  refine wpAny_bind (wpAny_bind (wpAny_rule (wpAny_bind (wpAny_setScan_of isz live dat fits elems ?_))))
  cases found : List.findIdx? (fun x => (strKind P w).is z x.2) arr.toList with
  | some j =>
    dsimp only
    obtain ⟨lt, yes, _⟩ := List.findIdx?_eq_some_iff_getElem.mp found
    have inn : z ∈ ks := mem.mpr ⟨_, List.getElem_mem lt, yes⟩
    refine wpAny_pure (wpAny_pure ?_)
    exact fin _ s.heap (Heap.SameBut.refl d s.heap) (by rw [if_pos inn]; exact ⟨ob, arr, age, tab, live, kind, dat, ents, keys, nodup, few, fits, ris, led⟩)
  | none =>
    dsimp only
    have out : z ∉ ks := fun i => by
      obtain ⟨x, hx, e⟩ := mem.mp i
      have c := List.findIdx?_eq_none_iff.mp found x hx
      rw [e] at c
      cases c
    rw [if_neg out] at fin
    have c1 := layNew_perm tab arr ((strKind P w).hash z) (.str z tk)
    have c2 := layNew_fits tab arr ((strKind P w).hash z) (.str z tk)
    have c3 := layNew_ris tab arr ((strKind P w).hash z) (.str z tk) ris
    have c4 := layNew_led tab arr ((strKind P w).hash z) (.str z tk)
    generalize layNew tab arr ((strKind P w).hash z) (.str z tk) = lay at c1 c2 c3 c4 ⊢
    obtain ⟨arr1, tab1, dummy, gv⟩ := lay
    dsimp only at c1 c2 c3 c4 ⊢
    rw [Array.toList_push] at c1
    have ents1 : ∀ x ∈ arr1.toList, TextE P w x := fun x hx => by
      rcases List.mem_append.mp (c1.mem_iff.mp hx) with i | i
      · exact ents x i
      · exact ⟨z, tk, List.mem_singleton.mp i⟩
    have keys1 : (arr1.toList.map textOf).Perm (ks ++ [z]) := by
      refine (c1.map textOf).trans ?_
      rw [List.map_append]
      exact keys.append_right _
    have nodup1 : (ks ++ [z]).Nodup := List.nodup_append.mpr ⟨nodup, List.nodup_cons.mpr ⟨List.not_mem_nil, List.nodup_nil⟩, fun x hx y hy e => by rw [List.mem_singleton.mp hy] at e; exact out (e ▸ hx)⟩
    have few1 : arr1.size < scanBound := by
      rw [← Array.length_toList, c1.length_eq, List.length_append, Array.length_toList, size]
      exact room
    have led1 : w.params.followText "set-order" = true ∨ tab1.led = true := by
      rcases led with l | l
      · exact .inl l
      · exact .inr (by rw [c4]; exact l)
    have quiet : ∀ (b : Bool) (s1 : Shared) (QU : Unit → Shared → Prop), QU () s1 → wpAny (model P w) A (match b with | true => rule "set.scan.the-table-gave-way" | false => pure ()) QU E s1 := fun b s1 QU q => by
      cases b
      · exact wpAny_pure q
      · exact wpAny_rule q
    refine wpAny_bind (quiet _ _ _ ?_)
    by_cases plain : tab1.plain = true
    · rw [if_pos plain]
      refine wpAny_bind ?_
      rw [hashByValue_scannable 8 scan]
      refine wpAny_pure ?_
      generalize plainKind (Value.str z tk) = pk
      cases pk
      · simp only [Bool.false_eq_true, ↓reduceIte]
        refine tset_tail ?_ live kind dat ents1 keys1 nodup1 few1 (SetTable.fits_plain_off c2) ?_ ?_ ?_
        · intro b s1 QU q
          cases b
          · exact wpAny_pure q
          · exact wpAny_rule q
        · exact c3
        · exact led1
        · intro h' sb r
          exact wpAny_pure (fin _ h' sb r)
      · simp only [↓reduceIte]
        refine tset_tail ?_ live kind dat ents1 keys1 nodup1 few1 c2 ?_ ?_ ?_
        · intro b s1 QU q
          cases b
          · exact wpAny_pure q
          · exact wpAny_rule q
        · exact c3
        · exact led1
        · intro h' sb r
          exact wpAny_pure (fin _ h' sb r)
    · rw [if_neg plain]
      refine wpAny_bind (wpAny_pure ?_)
      simp only [↓reduceIte]
      refine tset_tail ?_ live kind dat ents1 keys1 nodup1 few1 c2 c3 led1 ?_
      · intro b s1 QU q
        cases b
        · exact wpAny_pure q
        · exact wpAny_rule q
      · intro h' sb r
        exact wpAny_pure (fin _ h' sb r)
end
end L2
namespace L2
open PySem PySem.Spec PyProof.Rows
theorem ddS_snoc_in (l : List Str) (x : Str) : ddS (l ++ [x]) = if x ∈ ddS l then ddS l else ddS l ++ [x] := ddS_snoc l x
section
variable {P : Program} {w : World} {A : Around} {E : Value → Shared → Prop} {s : Shared}
/-- set.__new__ with an argument: an empty set, whose table may be walked -/
theorem new_set_led (v : Value) {QQ : Value → Shared → Prop}
    (k : QQ (.ref s.heap.objs.size) { s with heap := s.heap.push { cls := .type "set", dict := none, data := .set #[] 0 (.fresh 0 0 (!w.params.followText "set-order")) } }) :
    codeAny (model P w) A (.call (.builtin "set.__new__") ⟨[.type "set", v], []⟩) (wants QQ E) s := by
  refine codeAny_of_tree ?_
  show wpAny _ A.in1 (do checkBuiltinCall "set.__new__" ⟨[.type "set", v], []⟩; again (.builtin "set.__new__" ⟨[.type "set", v], []⟩)) _ _ s
  refine wpAny_bind (wpAny_of_eq (F.newCall_set_1 v) (wpAny_pure ⟨plainId_quiet F.plain_set_new _, codeAny_builtin F.entry_set_new ?_⟩))
  rw [Around.under_plainId F.plain_set_new _]
  unfold Builtin.«set.__new__» Builtin.Frozenset.newClass
  have own := sub_set_self
  rcases s with ⟨heap, gens, drawn, toks, os⟩
  dsimp only
  wp_walk
  refine wpAny_askSetting (wpAny_pure ?_)
  dsimp only
  simp only [newObj]
  exact wpAny_bind (wpAny_alloc (wpAny_pure (wpAny_pure k)))
theorem txset_fresh {hp : Heap} : TxSet P w (hp.push { cls := .type "set", dict := none, data := .set #[] 0 (.fresh 0 0 (!w.params.followText "set-order")) }) hp.objs.size [] := by
  refine ⟨_, #[], 0, _, Heap.get?_push_size _ rfl, ⟨rfl, rfl, rfl⟩, rfl, fun x hx => by simp at hx, by simp, List.nodup_nil, by decide, by rfl, List.Pairwise.nil, ?_⟩
  cases e : w.params.followText "set-order"
  · exact .inr rfl
  · exact .inl rfl
end
end L2
namespace L2
open PySem PySem.Spec PyProof.Rows
section
variable {P : Program} {w : World} {B : Around} {RR : Result → Shared → Prop} {it : Addr} {fq ww : List Addr} {GG : Array GenState → Array GenState → Prop} {m : Nat} {PP : Nat → Value → Prop} {TT : Nat → Shared → Prop}
/-- the texts that an iterator gives, put into a set -/
theorem texts_in (U : WalksS P w B.in1 it fq ww GG m PP TT) (so : Addr) (hso : so ∉ fq) (ys : List Str) (hys : ys.length = m) (few : m < 2000) (hv : ∀ i v, PP i v → ∃ t, v = .str (ys.getD i Str.empty) t) :
    ∀ (left i : Nat) (s : Shared), m - i = left → i ≤ m → TT i s → TxSet P w s.heap so (ddS (ys.take i)) →
      (∀ s', Moved (so :: ww) GG s s' → TxSet P w s'.heap so (ddS ys) → RR (.ok (.ret .none)) s') →
      codeAny (model P w) B (.builtin "set.update.loop" ⟨[.ref so, .ref it], []⟩) RR s := by
  have apart : so ∉ ww := fun h => hso (U.sub _ h)
  have wider : ∀ b ∈ ww, b ∈ so :: ww := fun b hb => List.mem_cons_of_mem _ hb
  have move : ∀ {s s' : Shared} {ks : List Str}, Moved ww GG s s' → TxSet P w s.heap so ks → TxSet P w s'.heap so ks := fun mv r => by
    obtain ⟨ob, arr, age, tab, live, rest⟩ := r
    exact ⟨ob, arr, age, tab, mv.heap so _ apart live, rest⟩
  intro left
  induction left with
  | zero =>
    intro i s hl hi ht hS hR
    obtain rfl : i = m := by omega
    rw [← hys, List.take_length] at hS
    refine codeAny_builtin F.entry_set_update_loop ?_
    rw [Around.under_plainId F.plain_set_update_loop _]
    exact wpAny_bind (U.done s _ _ ht fun s' mv => wpAny_pure (hR s' (mv.mono wider) (move mv hS)))
  | succ left ih =>
    intro i s hl hi ht hS hR
    have him : i < m := by omega
    refine codeAny_builtin F.entry_set_update_loop ?_
    rw [Around.under_plainId F.plain_set_update_loop _]
    refine wpAny_bind (U.item i s _ _ him ht fun v s' hP ht' mv => ?_)
    obtain ⟨t, rfl⟩ := hv i v hP
    have hS' := move mv hS
    have hlen := ddS_len (ys.take i)
    rw [List.length_take] at hlen
    refine wpAny_bind (wpAny_holding ?_)
    unfold setAdd
    refine wpAny_holding (wpAny_bind ((strKind P w).pyHash (k := ys.getD i Str.empty) (strKind_is _ _ _ _) ?_))
    refine tset_add (s := { s' with toks := s'.toks + 1 }) hS' (by unfold scanBound; omega) fun b0 h' sb hS2 => ?_
    have ey : ys.take (i + 1) = ys.take i ++ [ys.getD i Str.empty] := by
      rw [List.take_succ, List.getD_eq_getElem?_getD, List.getElem?_eq_getElem (by omega)]
      rfl
    have hS3 : TxSet P w h' so (ddS (ys.take (i + 1))) := by
      rw [ey, ddS_snoc]
      exact hS2
    refine wpAny_pure ⟨plainId_quiet F.plain_set_update_loop _, ih (i + 1) _ (by omega) him (U.frame _ s' _ _ ht' (Nat.le_succ _) fun b hb o e => ?_) hS3 fun s2 mv2 hS4 => ?_⟩
    · rw [sb.2 b (fun z : b = so => hso (by rw [← z]; exact hb))]
      exact e
    · refine hR s2 (Moved.trans U.gtrans ((mv.mono wider).then_heap (Nat.le_succ _) fun b o hb e => ?_) mv2) hS4
      rw [sb.2 b (fun z : b = so => hb (by rw [z]; exact List.mem_cons_self))]
      exact e
end
section
variable {P : Program} {w : World} {B : Around} {EE : Value → Shared → Prop} {s : Shared}
/-- set(texts), a list -/
theorem set_texts {ls : Addr} {its : Array Value} {ys : List Str} {QQ : Value → Shared → Prop} (hd : B.handled = none) (hl : s.heap.IsList ls its) (hy : StrsAre its.toList ys) (few : ys.length < 2000)
    (fin : ∀ (h' : Heap) (tk : Nat), TxSet P w h' s.heap.objs.size (ddS ys) → (∀ b o, b < s.heap.objs.size → s.heap.get? b = some o → h'.get? b = some o) → QQ (.ref s.heap.objs.size) { s with heap := h', toks := tk }) :
    wpAny (model P w) B (call (.type "set") [.ref ls]) QQ EE s := by
  obtain ⟨cc, tl, mro⟩ := F.called_set.mro
  have md := F.called_set.made
  have sb := F.called_set.sub
  have q1 := F.called_set.notType
  have q2 := F.called_set.canCreate
  have q3 := F.typeCall_set_1 (.ref ls)
  refine wpAny_call (codeAny_of_tree ?_)
  show wpAny _ _ (callAny (.type "set") _) _ _ _
  refine wpAny_pure ⟨Code.quiet_builtin _ (by decide +kernel), codeAny_builtin F.entry_type_call ?_⟩
  rw [Around.under_plain (weight_type_call_type "set" [.ref ls] []) rfl]
  repeat (any_goals (first | assumption | wp_step))
  refine codeAny_mono (new_set_led (.ref ls) (E := EE) (QQ := fun ob s1 => ob = .ref s.heap.objs.size ∧ s1 = { s with heap := s.heap.push (setOb (!w.params.followText "set-order")) }) ⟨rfl, rfl⟩) fun r s1 hr => ?_
  rcases r with e | fl
  · exact hr
  cases fl with
  | ret ob =>
    obtain ⟨rfl, rfl⟩ := hr
    generalize hled : (!w.params.followText "set-order") = led
    have gS : (s.heap.push (setOb led)).get? s.heap.objs.size = some (setOb led) := Heap.get?_push_size _ rfl
    have tS : Shared.TypeIs { s with heap := s.heap.push (setOb led) } (.ref s.heap.objs.size) "set" := ⟨_, gS, rfl⟩
    have i1 := F.called_set.init.lookup
    have i2 := F.called_set.init.bind (.ref s.heap.objs.size)
    repeat (any_goals (first | assumption | wp_step))
    refine codeAny_mono (codeAny_call_builtin (R := wants (fun r s2 => r = .none ∧ ∃ h' tk, s2 = { s with heap := h', toks := tk } ∧ TxSet P w h' s.heap.objs.size (ddS ys) ∧ (∀ b o, b < s.heap.objs.size → s.heap.get? b = some o → h'.get? b = some o)) EE) F.called_set.init.plain F.entry_set_init (check_set_init_1 tS ?_)) fun r2 s2 hr2 => ?_
    · obtain ⟨ot, got, ct, nt, dt⟩ := hl
      rcases ot with ⟨otc, otd, otx, ots⟩
      simp only at ct dt
      subst ct
      subst dt
      have got2 : (s.heap.push (setOb led)).get? ls = some { cls := .type "list", dict := otd, data := .seq its nt, slots := ots } := Heap.get?_push_of_some _ got
      have u1 := F.sub_list_set
      have u2 := F.sub_list_frozenset
      have u3 : (Value.type "list" == Value.type "dict") = false := by decide
      have lst1 : (s.heap.push (setOb led)).IsList ls its := ⟨_, got2, rfl, nt, rfl⟩
      unfold Builtin.«set.__init__» noKeywords Builtin.Frozenset.updateFrom
      generalize hPI : pyIter = PI
      wp_walk
      subst hPI
      refine wpAny_pyIter_list lst1 ?_
      refine wpAny_bind (wpAny_runValue ?_)
      have lt1 : ls < s.heap.objs.size := Heap.lt_size got
      have hd3 : B.in1.in1.in1.handled = none := by simp [hd]
      have ne1 : ls ≠ (s.heap.push (setOb led)).objs.size := by
        rw [Heap.size_push]
        exact Nat.ne_of_lt (Nat.lt_succ_of_lt lt1)
      have so1 : s.heap.objs.size ∉ [(s.heap.push (setOb led)).objs.size, ls] := by
        rw [Heap.size_push]
        simp only [List.mem_cons, List.mem_singleton, List.not_mem_nil, or_false, not_or]
        exact ⟨Nat.ne_of_lt (Nat.lt_succ_self _), Nat.ne_of_gt lt1⟩
      have len1 : ys.length = its.size := by rw [← StrsAre.len_eq hy, Array.length_toList]
      refine texts_in ((Walks.list hd3 _ ls ne1 its).toS) s.heap.objs.size so1 ys len1 (by omega) (fun i v e => SS.strs_at hy i v (by rw [Array.getElem?_toList]; exact e)) (its.size - 0) 0 _ (by omega) (Nat.zero_le _)
        ⟨⟨_, Heap.get?_push_size _ rfl, rfl, rfl⟩, lst1.push _⟩ ?start ?done
      case start =>
        obtain ⟨ob, arr, age, tab, live, rest⟩ := txset_fresh (P := P) (w := w) (hp := s.heap)
        rw [hled] at live
        exact ⟨ob, arr, age, tab, Heap.get?_push_of_some _ live, rest⟩
      case done =>
        intro s' mv hS
        rcases s' with ⟨h', g', d', tk', os'⟩
        obtain rfl : g' = s.gens := mv.gens
        obtain rfl : d' = s.drawn := mv.drawn
        obtain rfl : os' = s.os := mv.os
        refine wpAny_pure ?_
        show wpAny _ _ (ret Value.none) _ _ _
        refine wpAny_pure ⟨rfl, h', tk', rfl, hS, fun b o hb e => ?_⟩
        have n1 : b ≠ s.heap.objs.size := Nat.ne_of_lt hb
        have n2 : b ≠ (s.heap.push (setOb led)).objs.size := by
          rw [Heap.size_push]
          exact Nat.ne_of_lt (Nat.lt_succ_of_lt hb)
        exact mv.heap b o (by simp only [List.mem_cons, List.mem_singleton, List.not_mem_nil, or_false, not_or]; exact ⟨n1, n2⟩) (Heap.get?_push_of_some _ (Heap.get?_push_of_some _ e))
    · rcases r2 with e | fl2
      · exact hr2
      cases fl2 with
      | ret r =>
        obtain ⟨rfl, h', tk, rfl, hS, hk⟩ := hr2
        repeat (any_goals (first | assumption | wp_step))
        exact fin _ _ hS hk
      | _ => exact hr2.elim
  | _ => exact hr.elim
end
end L2
namespace L2
open PySem PySem.Spec PyProof.Rows
section
variable {P : Program} {w : World} {A : Around} {E : Value → Shared → Prop} {s : Shared}
/-- sorted(set of texts) -/
theorem sorted_texts {d : Addr} {ks : List Str} {QQ : Value → Shared → Prop} (R : TxSet P w s.heap d ks) (hh : A.handled = none)
    (fin : ∀ (s' : Shared) (p : Addr) (out : List Value) (c : Nat) (ys : List Str), (∀ b o, s.heap.get? b = some o → s'.heap.get? b = some o) → s'.gens = s.gens → s'.os = s.os → s.heap.objs.size ≤ p →
      s'.heap.get? p = some (seqObj "list" out.toArray c) → StrsAre out ys → ys.Perm ks → sortedS ys = true → QQ (.ref p) s') :
    wpAny (model P w) A (call (.builtin "sorted") [.ref d]) QQ E s := by
  obtain ⟨ob, arr, age, tab, live, kind, dat, ents, keys, nodup, few, fits, ris, led⟩ := R
  refine Calls.call_function_entry kind_sorted plain_sorted entry_sorted (args_sorted1 _) ?_
  unfold Builtin.«sorted»
  refine wpAny_bind (m := checkCount "sorted" 1 1 _) (wpAny_pure ?_)
  refine wpAny_bind (collect_set (A := A.in1) hh ⟨ob, live, kind.1, dat⟩ fits few ris led fun s1 vs k1 hz g1 o1 pm => ?_)
  have allS : ∀ v ∈ vs, ∃ z tk, v = Value.str z tk := fun v hv => by
    obtain ⟨x, hx, e⟩ := List.mem_map.mp (pm.mem_iff.mp hv)
    obtain ⟨z, tk, rfl⟩ := ents x hx
    exact ⟨z, tk, e.symm⟩
  have hS : StrsAre vs (vs.map strOf) := strsAre_map vs allS
  have pk : (vs.map strOf).Perm ks := by
    have q := pm.map strOf
    rw [List.map_map] at q
    refine q.trans ?_
    rw [show arr.toList.map (strOf ∘ fun x => x.2) = arr.toList.map textOf from List.map_congr_left fun x hx => by
      obtain ⟨z, tk, rfl⟩ := ents x hx
      rfl]
    exact keys
  have hlz : vs.length ≤ sizeLine := by
    rw [pm.length_eq, List.length_map, Array.length_toList]
    exact fits_of_scanBound few
  refine wpAny_bind (wpAny_newList ?_ hlz)
  have hoL : (s1.heap.push (seqObj "list" vs.toArray 0)).get? s1.heap.objs.size = some (seqObj "list" vs.toArray 0) := Heap.get?_push_size _ rfl
  refine wpAny_bind (wpAny_holding (wpAny_call_entry slot_list_sort ⟨_, hoL, rfl⟩ entry_list_sort (list_sort_treeKAny strKind_oneLt hoL hS.keysOf (fun v₁ v₂ rest e => keyKind_strs (by rw [← e]; exact hS)) hlz fun st' a1 a2 => ⟨_, rfl, ?_⟩) (args_list_sort _)))
  obtain ⟨ss', h1, h2, h3⟩ := sorted_out_str hS a1 a2
  obtain ⟨c, hc⟩ := PyProof.Rows.sortedHeap_at (vs := vs) (out := (arrOf st').map (·.2)) hoL
  refine wpAny_pure ⟨_, rfl, fin _ s1.heap.objs.size _ c ss' (fun b u e0 => ?_) g1 o1 hz hc h1 (h2.trans pk) h3⟩
  have e := k1 b u e0
  have lt := Heap.lt_size e
  show (sortedHeap (s1.heap.push (seqObj "list" vs.toArray 0)) s1.heap.objs.size vs _).get? b = some u
  rw [PyProof.Rows.sortedHeap_old (Nat.ne_of_lt lt) (by rw [Heap.size_push]; exact Nat.lt_succ_of_lt lt)]
  exact Heap.get?_push_of_some _ e
end
section
variable {X : Cx}
/-- sorted(set(texts)) -/
def tSortSetL (K : PySem.W.Frag) (ta : TE) : TE := fun σ H Q => ta σ H fun x H1 => ∃ (l : Addr) (xs : List Str), x = V.ref l ∧ SqL K H1 l (xs.map V.str) ∧ xs.length < 2000 ∧ ∀ (ys : List Str) (p : Addr), ys.Perm (ddS xs) → sortedS ys = true → H1 p = none → Q (.ref p) (upd H1 p (.lst (ys.map V.str)))
theorem pe_sortSetL {a : Expr} {ta : TE} {p p2 q pos : Pos} (hc : X.calm = true) (hg : Gl X "sorted") (hm : X.mg "sorted" = none) (hg2 : Gl X "set") (hm2 : X.mg "set" = none) (ha : PE X a ta)
    (na : starEach [a] X.env = (false, eval a X.env) :: starEach [] X.env := by rfl) : PE X (.Call (.Name "sorted" p) [.Call (.Name "set" p2) [a] [] q] [] pos) (tSortSetL X.K ta) := by
  refine ⟨fun pins s σ H Q I h => ?_⟩
  refine Call_ (ld_blt I hg hm (show bootBuiltins "sorted" = some (.builtin "sorted") from by decide +kernel) ?_)
  refine callWith_builtin1 (args_cons ?_ rfl) rfl rfl
  refine Call_ (ld_blt I hg2 hm2 boot_set ?_)
  refine callWith_type1 (args_cons (thn (ha.run pins s σ H _ I h) fun v s1 ⟨x, H1, I1, r1, q1⟩ => args_nil ?_) na) na rfl
  obtain ⟨l, xs, rfl, hq, few, q1⟩ := q1
  cases r1
  obtain ⟨its, r, pl, hz⟩ := I1.list hq
  refine set_texts (I1.ok.hd hc) pl.isList (ys := xs) (by simpa using strsAre_of r) few fun h' tk hS hk => ?_
  refine args_nil ?_
  have I2 : Inv X pins σ H1 { s1 with heap := h', toks := tk } := I1.kept fun b o e => hk b o (Heap.lt_size e) e
  refine sorted_texts hS (I1.ok.hd hc) fun s' pp out c ys k0 g1 o1 le hp h1 h2 h3 => ?_
  have small := ddS_len xs
  have hsz : sizeLine = 2 ^ 24 := sizeLine_eq
  have hlen : (ys.map V.str).length ≤ sizeLine := by
    rw [List.length_map, h2.length_eq]
    omega
  have hn : H1 pp = none := I2.hok.fresh le
  exact ⟨.ref pp, upd H1 pp (.lst (ys.map V.str)), I2.call' (ch := []) o1 (Un.laid k0 le hn) (I2.hok.laid k0 le ⟨hlen, out, c, vals_of_strs h1, hp⟩) (by rw [g1]; exact I2.bare) (fun _ z => nomatch z), rfl, q1 ys pp h2 h3 hn⟩
end
end L2

set_option Elab.async false
set_option linter.all false
set_option maxRecDepth 100000
set_option maxHeartbeats 4000000
/-! LcKit: comprehensions whose items are known one by one. -/
namespace L2
open PySem
/-- all but the lists stay -/
def KeepL (H H' : Hp) : Prop := ∀ b o, H b = some o → (∀ l, o ≠ .lst l) → H' b = some o
theorem KeepL.of {H H' : Hp} (s : ∀ b o, H b = some o → H' b = some o) : KeepL H H' := fun b o e _ => s b o e
theorem KeepL.trans {H H1 H2 : Hp} (s : KeepL H H1) (t : KeepL H1 H2) : KeepL H H2 := fun b o e n => t b o (s b o e n) n
inductive All2 {α β : Type} (R : α → β → Prop) : List α → List β → Prop
  | nil : All2 R [] []
  | cons {x : α} {z : β} {xs : List α} {zs : List β} (h : R x z) (t : All2 R xs zs) : All2 R (x :: xs) (z :: zs)
section
variable {α β : Type} {R : α → β → Prop}
theorem All2.length {xs : List α} {zs : List β} (h : All2 R xs zs) : xs.length = zs.length := by
  induction h with
  | nil => rfl
  | cons _ _ ih => rw [List.length_cons, List.length_cons, ih]
theorem All2.get {xs : List α} {zs : List β} (h : All2 R xs zs) {i : Nat} {x : α} (e : xs[i]? = some x) : ∃ z, zs[i]? = some z ∧ R x z := by
  induction h generalizing i with
  | nil => cases e
  | cons h t ih =>
    cases i with
    | zero => cases e; exact ⟨_, rfl, h⟩
    | succ i => exact ih e
theorem All2.getR {xs : List α} {zs : List β} (h : All2 R xs zs) {i : Nat} {z : β} (e : zs[i]? = some z) : ∃ x, xs[i]? = some x ∧ R x z := by
  induction h generalizing i with
  | nil => cases e
  | cons h t ih =>
    cases i with
    | zero => cases e; exact ⟨_, rfl, h⟩
    | succ i => exact ih e
theorem All2.append {xs ys : List α} {zs ws : List β} (h : All2 R xs zs) (g : All2 R ys ws) : All2 R (xs ++ ys) (zs ++ ws) := by
  induction h with
  | nil => exact g
  | cons h t ih => exact .cons h ih
theorem All2.mono {S : α → β → Prop} {xs : List α} {zs : List β} (h : All2 R xs zs) (m : ∀ x z, z ∈ zs → R x z → S x z) : All2 S xs zs := by
  induction h with
  | nil => exact .nil
  | cons h t ih => exact .cons (m _ _ List.mem_cons_self h) (ih fun x z hz r => m x z (List.mem_cons_of_mem _ hz) r)
theorem All2.drop {xs : List α} {zs : List β} (h : All2 R xs zs) : ∀ k : Nat, All2 R (xs.drop k) (zs.drop k)
  | 0 => h
  | k + 1 => by
    cases h with
    | nil => exact .nil
    | cons h t => exact t.drop k
theorem All2.take {xs : List α} {zs : List β} (h : All2 R xs zs) : ∀ k : Nat, All2 R (xs.take k) (zs.take k)
  | 0 => .nil
  | k + 1 => by
    cases h with
    | nil => exact .nil
    | cons h t => exact .cons h (t.take k)
theorem All2.map {γ : Type} {f : γ → α} {g : γ → β} : ∀ {cs : List γ}, (∀ c ∈ cs, R (f c) (g c)) → All2 R (cs.map f) (cs.map g)
  | [], _ => .nil
  | c :: cs, h => .cons (h c List.mem_cons_self) (All2.map fun d hd => h d (List.mem_cons_of_mem _ hd))
theorem All2.mem {xs : List α} {zs : List β} (h : All2 R xs zs) {x : α} (e : x ∈ xs) : ∃ z, z ∈ zs ∧ R x z := by
  obtain ⟨i, hi⟩ := List.mem_iff_getElem?.mp e
  obtain ⟨z, hz, r⟩ := h.get hi
  exact ⟨z, List.mem_of_getElem? hz, r⟩
/-- values that are told by what they are -/
theorem All2.eq_map {f : β → α} {xs : List α} {zs : List β} (h : All2 (fun x z => x = f z) xs zs) : xs = zs.map f := by
  induction h with
  | nil => rfl
  | cons h t ih => rw [List.map_cons, h, ih]
theorem All2.of_map {f : β → α} : ∀ zs : List β, All2 (fun x z => x = f z) (zs.map f) zs
  | [] => .nil
  | z :: zs => .cons rfl (All2.of_map zs)
end
theorem filter_take_succ {β γ : Type} {zs : List β} {i : Nat} {z : β} (e : zs[i]? = some z) (t : β → Bool) (f : β → γ) : ((zs.take (i + 1)).filter t).map f = ((zs.take i).filter t).map f ++ (if t z = true then [f z] else []) := by
  rw [List.take_succ, e, List.filter_append, List.map_append]
  congr 1
  by_cases h : t z = true
  · rw [if_pos h]
    simp [h]
  · rw [if_neg h]
    simp [h]
section
variable {K : PySem.W.Frag} {g : TG} {tt : TT} {te : TE} {vs : List Nat} {σ : St} {H1 : Hp} {D : Addr} {Qd : Hp → Prop} {α β : Type} {zs : List α} {R : Hp → V → α → Prop} {R' : Hp → V → β → Prop}
theorem sqT_same {H H' : Hp} {a : Addr} {xs : List V} (e : ∀ b o, H b = some o → H' b = some o) (h : SqT K H a xs) : SqT K H' a xs :=
  h.elim (fun h => .inl (h.elim (fun h => .inl (e _ _ h)) fun ⟨o, h⟩ => .inr ⟨o, e _ _ h⟩)) fun h => .inr h
theorem sqL_same {H H' : Hp} {a : Addr} {xs : List V} (e : ∀ b o, H b = some o → H' b = some o) (h : SqL K H a xs) : SqL K H' a xs :=
  h.elim (fun h => .inl (h.elim (fun h => .inl (e _ _ h)) fun ⟨o, h⟩ => .inr ⟨o, e _ _ h⟩)) fun h => .inr h
/-- one turn's wish -/
def LcP (H1 : Hp) (D : Addr) (R' : Hp → V → β → Prop) (zs : List α) (t : α → Bool) (f : α → β) (i : Nat) (H : Hp) : Prop := (∀ b o, H1 b = some o → H b = some o) ∧ ∃ ys, H D = some (.lst ys) ∧ All2 (R' H) ys (((zs.take i).filter t).map f)
theorem lcP_put {t : α → Bool} {f : α → β} {i : Nat} {z : α} {H H4 : Hp} {y : V} (hD : H1 D = none) (mR' : ∀ H H' x z, KeepL H H' → R' H x z → R' H' x z) (hz : zs.length < sizeLine) (e : zs[i]? = some z) (p : LcP H1 D R' zs t f i H) (ht : t z = true)
    (s : ∀ b o, H b = some o → H4 b = some o) (r : R' H4 y (f z)) : ∃ acc, H4 D = some (.lst acc) ∧ acc.length < sizeLine ∧ LcP H1 D R' zs t f (i + 1) (upd H4 D (.lst (acc ++ [y]))) := by
  obtain ⟨s1, ys, hd, a⟩ := p
  have kl : KeepL H4 (upd H4 D (.lst (ys ++ [y]))) := fun b o e n => by
    rw [upd_ne (fun q => by subst q; rw [s _ _ hd] at e; cases e; exact n _ rfl)]
    exact e
  have hlen := a.length
  rw [List.length_map] at hlen
  have h1 : ((zs.take i).filter t).length ≤ zs.length := Nat.le_trans (List.length_filter_le _ _) (by rw [List.length_take]; omega)
  refine ⟨ys, s _ _ hd, by omega, fun b o e => ?_, _, upd_same, ?_⟩
  · rw [upd_ne (ne_of_none e hD)]
    exact s _ _ (s1 _ _ e)
  · rw [filter_take_succ e, if_pos ht]
    exact (a.mono fun x z _ r => mR' _ _ _ _ kl (mR' _ _ _ _ (.of s) r)).append (.cons (mR' _ _ _ _ kl r) .nil)
theorem lcP_skip {t : α → Bool} {f : α → β} {i : Nat} {z : α} {H H3 : Hp} (mR' : ∀ H H' x z, KeepL H H' → R' H x z → R' H' x z) (e : zs[i]? = some z) (p : LcP H1 D R' zs t f i H) (ht : t z = false)
    (s : ∀ b o, H b = some o → H3 b = some o) : LcP H1 D R' zs t f (i + 1) H3 := by
  obtain ⟨s1, ys, hd, a⟩ := p
  refine ⟨fun b o e => s _ _ (s1 _ _ e), ys, s _ _ hd, ?_⟩
  rw [filter_take_succ e, if_neg (by rw [ht]; simp), List.append_nil]
  exact a.mono fun x z _ r => mR' _ _ _ _ (.of s) r
theorem lcP_zero {t : α → Bool} {f : α → β} (hD : H1 D = none) : LcP H1 D R' zs t f 0 (upd H1 D (.lst [])) := ⟨fun b o e => by rw [upd_ne (ne_of_none e hD)]; exact e, [], upd_same, .nil⟩
/-- over a list whose items are known -/
theorem lcM_list {a : Addr} {xs : List V} (t : α → Bool) (f : α → β) (hD : H1 D = none) (hS : SqL K H1 a xs) (hx : All2 (R H1) xs zs) (mR : ∀ H H' x z, (∀ b o, H b = some o → H' b = some o) → R H x z → R H' x z) (mR' : ∀ H H' x z, KeepL H H' → R' H x z → R' H' x z) (hz : zs.length < sizeLine)
    (step : ∀ (i : Nat) (x : V) (z : α) (H : Hp) (C : V → Hp → Prop) (C0 : Hp → Prop), zs[i]? = some z → (∀ b o, H1 b = some o → H b = some o) → R H x z →
      (t z = true → ∀ y H4, (∀ b o, H b = some o → H4 b = some o) → R' H4 y (f z) → C y H4) → (t z = false → ∀ H3, (∀ b o, H b = some o → H3 b = some o) → C0 H3) →
      g x (wipe σ vs) H fun σ2 H2 => wipe σ2 vs = wipe σ vs ∧ tt σ2 H2 fun b H3 => if b = true then te σ2 H3 C else C0 H3)
    (fin : ∀ ys H, (∀ b o, H1 b = some o → H b = some o) → H D = some (.lst ys) → All2 (R' H) ys ((zs.filter t).map f) → Qd H) :
    ∃ W : Nat → Nat → Hp → Prop, (∃ m, W 0 m (upd H1 D (.lst []))) ∧ ∀ i m H, W i m H →
      ((Itl K a).stop i H ∧ Qd H) ∨ ((Itl K a).go i H ∧ ∃ Nx : Hp → Prop, (∀ H', Nx H' → ∃ m', m' < m ∧ W (i + 1) m' H') ∧ ∀ x H', (Itl K a).yld i H x H' → g x (wipe σ vs) H' fun σ2 H2 => wipe σ2 vs = wipe σ vs ∧ tt σ2 H2 fun b H3 =>
        if b = true then te σ2 H3 fun y H4 => ∃ acc, H4 D = some (.lst acc) ∧ acc.length < sizeLine ∧ Nx (upd H4 D (.lst (acc ++ [y]))) else Nx H3) := by
  have el := hx.length
  refine lc_list (xs := xs) (LcP H1 D R' zs t f) (lcP_zero hD) (fun i H _ p => sqL_same p.1 hS) (fun i x H hi p => ?_) (fun H p => ?_)
  · obtain ⟨z, e, r⟩ := hx.get hi
    exact step i x z H _ _ e p.1 (mR _ _ _ _ p.1 r) (fun ht y H4 s r => lcP_put hD mR' hz e p ht s r) (fun ht H3 s => lcP_skip mR' e p ht s)
  · obtain ⟨s1, ys, hd, a2⟩ := p
    rw [el, List.take_length] at a2
    exact fin ys H s1 hd a2
/-- over a tuple -/
theorem lcM_tup {a : Addr} {xs : List V} (t : α → Bool) (f : α → β) (hD : H1 D = none) (hS : SqT K H1 a xs) (hx : All2 (R H1) xs zs) (mR : ∀ H H' x z, (∀ b o, H b = some o → H' b = some o) → R H x z → R H' x z) (mR' : ∀ H H' x z, KeepL H H' → R' H x z → R' H' x z) (hz : zs.length < sizeLine)
    (step : ∀ (i : Nat) (x : V) (z : α) (H : Hp) (C : V → Hp → Prop) (C0 : Hp → Prop), zs[i]? = some z → (∀ b o, H1 b = some o → H b = some o) → R H x z →
      (t z = true → ∀ y H4, (∀ b o, H b = some o → H4 b = some o) → R' H4 y (f z) → C y H4) → (t z = false → ∀ H3, (∀ b o, H b = some o → H3 b = some o) → C0 H3) →
      g x (wipe σ vs) H fun σ2 H2 => wipe σ2 vs = wipe σ vs ∧ tt σ2 H2 fun b H3 => if b = true then te σ2 H3 C else C0 H3)
    (fin : ∀ ys H, (∀ b o, H1 b = some o → H b = some o) → H D = some (.lst ys) → All2 (R' H) ys ((zs.filter t).map f) → Qd H) :
    ∃ W : Nat → Nat → Hp → Prop, (∃ m, W 0 m (upd H1 D (.lst []))) ∧ ∀ i m H, W i m H →
      ((Itt K a).stop i H ∧ Qd H) ∨ ((Itt K a).go i H ∧ ∃ Nx : Hp → Prop, (∀ H', Nx H' → ∃ m', m' < m ∧ W (i + 1) m' H') ∧ ∀ x H', (Itt K a).yld i H x H' → g x (wipe σ vs) H' fun σ2 H2 => wipe σ2 vs = wipe σ vs ∧ tt σ2 H2 fun b H3 =>
        if b = true then te σ2 H3 fun y H4 => ∃ acc, H4 D = some (.lst acc) ∧ acc.length < sizeLine ∧ Nx (upd H4 D (.lst (acc ++ [y]))) else Nx H3) := by
  have el := hx.length
  refine lc_tup (xs := xs) (LcP H1 D R' zs t f) (lcP_zero hD) (fun i H _ p => sqT_same p.1 hS) (fun i x H hi p => ?_) (fun H p => ?_)
  · obtain ⟨z, e, r⟩ := hx.get hi
    exact step i x z H _ _ e p.1 (mR _ _ _ _ p.1 r) (fun ht y H4 s r => lcP_put hD mR' hz e p ht s r) (fun ht H3 s => lcP_skip mR' e p ht s)
  · obtain ⟨s1, ys, hd, a2⟩ := p
    rw [el, List.take_length] at a2
    exact fin ys H s1 hd a2
/-- over a range -/
theorem lcM_range {lo : Int} {n : Nat} (t : Nat → Bool) (f : Nat → β) (hD : H1 D = none) (mR' : ∀ H H' x z, KeepL H H' → R' H x z → R' H' x z) (hz : n < sizeLine)
    (step : ∀ (i : Nat) (H : Hp) (C : V → Hp → Prop) (C0 : Hp → Prop), i < n → (∀ b o, H1 b = some o → H b = some o) →
      (t i = true → ∀ y H4, (∀ b o, H b = some o → H4 b = some o) → R' H4 y (f i) → C y H4) → (t i = false → ∀ H3, (∀ b o, H b = some o → H3 b = some o) → C0 H3) →
      g (.int (lo + i)) (wipe σ vs) H fun σ2 H2 => wipe σ2 vs = wipe σ vs ∧ tt σ2 H2 fun b H3 => if b = true then te σ2 H3 C else C0 H3)
    (fin : ∀ ys H, (∀ b o, H1 b = some o → H b = some o) → H D = some (.lst ys) → All2 (R' H) ys (((List.range n).filter t).map f) → Qd H) :
    ∃ W : Nat → Nat → Hp → Prop, (∃ m, W 0 m (upd H1 D (.lst []))) ∧ ∀ i m H, W i m H →
      ((Itr lo n).stop i H ∧ Qd H) ∨ ((Itr lo n).go i H ∧ ∃ Nx : Hp → Prop, (∀ H', Nx H' → ∃ m', m' < m ∧ W (i + 1) m' H') ∧ ∀ x H', (Itr lo n).yld i H x H' → g x (wipe σ vs) H' fun σ2 H2 => wipe σ2 vs = wipe σ vs ∧ tt σ2 H2 fun b H3 =>
        if b = true then te σ2 H3 fun y H4 => ∃ acc, H4 D = some (.lst acc) ∧ acc.length < sizeLine ∧ Nx (upd H4 D (.lst (acc ++ [y]))) else Nx H3) := by
  refine lc_range (LcP H1 D R' (List.range n) t f) (lcP_zero hD) (fun i H hi p => ?_) (fun H p => ?_)
  · have e : (List.range n)[i]? = some i := List.getElem?_range hi
    exact step i H _ _ hi p.1 (fun ht y H4 s r => lcP_put hD mR' (by rw [List.length_range]; exact hz) e p ht s r) (fun ht H3 s => lcP_skip mR' e p ht s)
  · obtain ⟨s1, ys, hd, a2⟩ := p
    have e2 : (List.range n).take n = List.range n := List.take_of_length_le (by rw [List.length_range]; exact Nat.le_refl _)
    rw [e2] at a2
    exact fin ys H s1 hd a2
end
end L2

set_option Elab.async false
set_option linter.all false
set_option maxRecDepth 100000
set_option maxHeartbeats 4000000
namespace T74
open PySem PySem.Spec PyProof.Rows L2 EK
abbrev sLA : Stmt := top 22
abbrev sTA : Stmt := top 23
abbrev sCA : Stmt := top 24
abbrev sLeast : Stmt := top 25
/-- a list or a tuple, gone through -/
def iLT (K : PySem.W.Frag) (tl : TE) : TI := fun σ H R => tl σ H fun x H1 => ∃ a, x = .ref a ∧ (((∃ xs, SqL K H1 a xs) ∧ R (Itl K a) H1) ∨ ((∃ xs, SqT K H1 a xs) ∧ R (Itt K a) H1))
theorem pi_lt {X : Cx} {tg l : Expr} {tl : TE} (hl : PE X l tl) : PI X tg l (iLT X.K tl) := by
  refine ⟨fun pins s σ H R I h => thn (hl.run pins s σ H _ I h) fun v s1 ⟨x, H1, I1, r1, q1⟩ => ?_⟩
  have walk : ∀ b, b ∈ [s1.heap.objs.size] → b = s1.heap.objs.size := fun b hb => by simpa using hb
  obtain ⟨a, rfl, ⟨⟨xs, hq⟩, q⟩ | ⟨⟨xs, hq⟩, q⟩⟩ := q1
  · cases r1
    obtain ⟨its, rv, pl, _⟩ := I1.list hq
    refine wpAny_pyIter_list pl.isList ⟨s1.heap.objs.size, [s1.heap.objs.size], _, _, H1, rfl, I1.kept (t' := s1.toks) fun b o e => Heap.get?_push_of_some _ e, turn_list a _, ⟨_, Heap.get?_push_size _ rfl, rfl, rfl⟩, fun b hb => ?_, q⟩
    rw [walk b hb]
    exact I1.fpOk (Nat.le_refl _) (I1.hok.fresh (Nat.le_refl _))
  · cases r1
    obtain ⟨its, rv, pl, _⟩ := I1.tuple hq
    refine wpAny_pyIter_tuple (show s1.heap.IsTuple a its.toArray from pl) ⟨s1.heap.objs.size, [s1.heap.objs.size], _, _, H1, rfl, I1.kept (t' := s1.toks) fun b o e => Heap.get?_push_of_some _ e, turn_tuple a _, ⟨_, Heap.get?_push_size _ rfl, rfl, rfl⟩, fun b hb => ?_, q⟩
    rw [walk b hb]
    exact I1.fpOk (Nat.le_refl _) (I1.hok.fresh (Nat.le_refl _))
/-- x is no list and no tuple -/
def noLT (H : Hp) (x : V) : Prop := ∀ a, x = .ref a → ∀ xs, H a ≠ some (.lst xs) ∧ H a ≠ some (.tup xs)
def kLT : List Value := [.type "list", .type "tuple"]
theorem Pl.isLT {K : PySem.W.Frag} {H : Hp} {x : V} (h : Pl H x) (n : noLT H x) : ∃ t, TyX K H x t ∧ PySem.W.kitAny K t kLT = some false := by
  have no : ∀ {a : String}, PySem.W.kitOne K (.type a) (.type "list") = some false → PySem.W.kitOne K (.type a) (.type "tuple") = some false → PySem.W.kitAny K (.type a) kLT = some false := fun h1 h2 => kitAny_cons h1 (fun _ => kitAny_cons h2 (fun _ => kitAny_nil) fun z => by cases z) fun z => by cases z
  cases h with
  | non => exact ⟨_, .base .non, no (kit_ty (by decide +kernel)) (kit_ty (by decide +kernel))⟩
  | int i => exact ⟨_, .base (.int i), no (kit_ty (by decide +kernel)) (kit_ty (by decide +kernel))⟩
  | str z => exact ⟨_, .base (.str z), no (kit_ty (by decide +kernel)) (kit_ty (by decide +kernel))⟩
  | bl b => exact ⟨_, .base (.bl b), no (kit_ty (by decide +kernel)) (kit_ty (by decide +kernel))⟩
  | tup e => exact absurd e (n _ rfl _).2
  | lst e => exact absurd e (n _ rfl _).1
  | dct e => exact ⟨_, .base (.dK e), no (kit_ty (by decide +kernel)) (kit_ty (by decide +kernel))⟩
theorem is_lst {K : PySem.W.Frag} : PySem.W.kitAny K (.type "list") kLT = some true := kitAny_cons (b := true) (kit_ty (by decide +kernel)) (fun z => by cases z) fun _ => rfl
theorem is_tup {K : PySem.W.Frag} : PySem.W.kitAny K (.type "tuple") kLT = some true := kitAny_cons (b := false) (kit_ty (by decide +kernel)) (fun _ => kitAny_cons (b := true) (kit_ty (by decide +kernel)) (fun z => by cases z) fun _ => rfl) fun z => by cases z
abbrev goodW (l : Str) (x : V) : Prop := goodT (fun z => isW z && over z l) x
abbrev badW (l : Str) (x : V) : Prop := badT (fun z => isW z && over z l) x
/-- the words at a, a list or a tuple -/
def SeqAt (H : Hp) (a : Addr) (xs : List V) : Prop := H a = some (.lst xs) ∨ H a = some (.tup xs)
theorem SeqAt.keep {H H' : Hp} {a : Addr} {xs : List V} (h : SeqAt H a xs) (s : Same H H') : SeqAt H' a xs := h.imp (s _ _) (s _ _)
/-- words that are refused -/
def badWs (C : Addr) (l : Str) (H : Hp) (x : V) (E : XK) : Prop := (Pl H x ∧ noLT H x ∧ noX C "text" H x E) ∨ ∃ a xs, x = .ref a ∧ SeqAt H a xs ∧ ∃ (ib : Nat) (y : V), xs[ib]? = some y ∧ Pl H y ∧ badW l y ∧ (∀ j, j < ib → ∀ y', xs[j]? = some y' → goodW l y') ∧ noX C "text" H y E
theorem badWs.keep {C : Addr} {l : Str} {H H' : Hp} {x : V} {E : XK} (h : badWs C l H x E) (s : Same H H') (n : noLT H x → noLT H' x) : badWs C l H' x E := by
  rcases h with ⟨p, q, k⟩ | ⟨a, xs, e, ha, ib, y, hy, py, by', hg, k⟩
  · exact .inl ⟨p.keep s, n q, k.keep s⟩
  · exact .inr ⟨a, xs, e, ha.keep s, ib, y, hy, py.keep s, by', hg, k.keep s⟩
def spCA (C : Addr) : Sp := fun vs H Q E => ∃ (x : V) (l : Str), vs = [x, .str l] ∧ ((∀ H', Same H H' → badWs C l H' x E) ∨ ∃ a xs, x = .ref a ∧ SeqAt H a xs ∧ (∀ y ∈ xs, goodW l y) ∧ ∀ H', Same H H' → Q .non H')
def spLA (C : Addr) : Sp := fun vs H _ E => ∃ x y, vs = [x, y] ∧ Pl H x ∧ ((badT isT x ∧ noX C "text" H x E) ∨ ∃ t : Str, x = .str t ∧ t.cps.size ≤ 100 ∧ isT t = true ∧ Pl H y ∧ badSL y t ∧ noX C "text" H y E)
/-- the one word is a part of the other -/
def partB (u v : Str) : Bool := !(Builtin.Str.occurrences v u 0 v.length 1).isEmpty
def spLeast : Sp := fun vs H Q _ => ∃ (a : Addr) (xs : List Str), vs = [.ref a] ∧ H a = some (.lst (xs.map V.str)) ∧ xs.length ≤ 100 ∧ (∃ u v, u ∈ xs ∧ v ∈ xs ∧ u ≠ v ∧ partB u v = true) ∧ ∀ H', Same H H' → Q (.bl false) H'
def spTA (C : Addr) : Sp := fun vs H Q E => ∃ x y, vs = [x, y] ∧ Pl H y ∧ ((badSL y "" ∧ noX C "text" H y E) ∨ ∃ l : Str, y = .str l ∧ goodSL y "" ∧ ((∀ H', Same H H' → badWs C l H' x E) ∨ ∃ (a : Addr) (xs : List Str), x = .ref a ∧ H a = some (.lst (xs.map V.str)) ∧ (∀ z ∈ xs, goodW l (.str z)) ∧ xs.length ≤ 100 ∧ (∃ u v, u ∈ xs ∧ v ∈ xs ∧ u ≠ v ∧ partB u v = true) ∧ ∀ H', Same H H' → Q .non H'))
section
variable {P : Program} {w : World} {K : PySem.W.Frag} {mg : Str → Option Value} {base : Heap} {C iC : Addr}
theorem scCA : FnScope ["words", "letters", "word"] ["words", "letters"] (defScope sCA) := ⟨rfl, rfl, rfl, by decide +kernel, rfl, by decide +kernel, by decide +kernel⟩
theorem ok_CA {f fCW : Addr} {fd fdCW : FuncData} (F : Fun K "_check_absent" "_check_absent" sCA f fd) (T : TxtC K mg) (TX : ErrTxt P K mg "NoText" "text" C iC)
    (GCW : FnOk P w K mg base (L2.CX P w) 4 fCW fdCW ["word", "letters"] (spCkWO C)) (gCW : mg "check_word_over" = some (.ref fCW)) (kCW : PySem.W.keepIn K (.ref fCW) = true) (bCW : Binds K fdCW ["word", "letters"] []) :
    FnOk P w K mg base (L2.CX P w) 5 f fd ["words", "letters"] (spCA C) := by
  refine F.okX scCA (fun vs H Q E h => ?_) (fun cdv A outer s H vs Q E hr h => ?_)
  · obtain ⟨x, l, rfl, _⟩ := h
    rfl
  · obtain ⟨x, l, rfl, h⟩ := h
    have nd := scCA.nd
    have hr4 : Room 4 _ := hr
    refine ⟨_, pss_cons (ps_if (pt_not (pt_val (pe_callB call_isiT (by rfl) T.isinstance (by decide +kernel) (pa_cons (pv 0) (pa_cons (pe_tup (pa_cons (pe_bltn (v := .ty "list") rfl T.list (by decide +kernel) rfl) (pa_cons (pe_bltn (v := .ty "tuple") rfl T.tuple (by decide +kernel) rfl) pa_nil))) pa_nil))))) (pss_one (ps_raiseErr rfl TX hr (takes_of rfl rfl rfl rfl) (pa_cons (pv 0) pa_nil) rfl)) pss_nil)
      (pss_one (ps_for (passes_of rfl) rfl (pi_lt (pv 0)) (pg_name (i := 2) nd rfl (Or.inl rfl)) (pss_one (ps_expr (pe_call GCW hr4 rfl gCW kCW bCW .nil (passes_call (takes_of rfl rfl rfl rfl) fun _ _ _ _ h => h) (pa_cons (pv 2) (pa_cons (pv 1) pa_nil))))))), ?_⟩
    refine ⟨_, rfl, (by show 2 ≤ sizeLine; decide), fun tp zt => ?_⟩
    obtain ⟨H1, e1, S1, A1⟩ := alloc (o := .tup [.ty "list", .ty "tuple"]) zt
    rw [e1]
    have cl : Paired ClsV [V.ty "list", .ty "tuple"] kLT := .cons (.ty _) (.cons (.ty _) .nil)
    rcases h with h | ⟨a, xs, rfl, ha, hg, k⟩
    · rcases h H1 S1 with ⟨p, n, k⟩ | ⟨a, xs, rfl, ha, ib, y, hy, py, by', hg, k⟩
      · obtain ⟨t, h1, h2⟩ := p.isLT (K := K) n
        exact ⟨x, tp, _, t, _, false, rfl, A1, cl, h1, h2, _, rfl, _, rfl, x, rfl, fun d hd => k _ d (.refl _) hd⟩
      · have il := (List.getElem?_eq_some_iff.mp hy).1
        rcases ha with ha | ha
        · refine ⟨_, tp, _, _, _, true, rfl, A1, cl, .base (.lst ha), is_lst, _, rfl, ?_⟩
          refine ⟨_, rfl, a, rfl, .inl ⟨⟨_, .of ha⟩, for_list (K := K) (a := a) (xs := xs) (fun i σ H' => ∃ v2 : Option V, σ = [some (.ref a), some (.str l), v2] ∧ Same H1 H' ∧ i ≤ ib) ⟨_, rfl, .refl _, Nat.zero_le _⟩ (fun i σ H' _ ⟨_, _, s, _⟩ => .of (s _ _ ha)) ?_ ?_⟩⟩
          · rintro i y2 σ H2 hy2 ⟨v2, rfl, s1, hle⟩
            by_cases e : i = ib
            · subst e
              obtain rfl : y = y2 := Option.some.inj (hy.symm.trans hy2)
              exact ⟨_, rfl, _, rfl, y, l, rfl, py.keep s1, .inr ⟨by', k.keep s1⟩⟩
            · obtain ⟨z, rfl, hz, hgz⟩ := hg i (by omega) y2 hy2
              exact ⟨_, rfl, _, rfl, .str z, l, rfl, .str _, .inl ⟨⟨z, rfl, hz, hgz⟩, fun H3 s3 => ⟨_, rfl, s1.trans s3, by omega⟩⟩⟩
          · rintro σ H2 ⟨v2, rfl, s1, hle⟩
            exact (by omega : False).elim
        · refine ⟨_, tp, _, _, _, true, rfl, A1, cl, .base (.tup ha), is_tup, _, rfl, ?_⟩
          refine ⟨_, rfl, a, rfl, .inr ⟨⟨_, .inl (.inl ha)⟩, for_it (walk_tup (K := K) (a := a) (xs := xs)) (fun i σ H' => ∃ v2 : Option V, σ = [some (.ref a), some (.str l), v2] ∧ Same H1 H' ∧ i ≤ ib) ⟨_, rfl, .refl _, Nat.zero_le _⟩ (fun i σ H' _ ⟨_, _, s, _⟩ => .inl (.inl (s _ _ ha))) ?_ ?_⟩⟩
          · rintro i y2 σ H2 H3 hi ⟨v2, rfl, s1, hle⟩ ⟨rfl, hy2⟩
            by_cases e : i = ib
            · subst e
              obtain rfl : y = y2 := Option.some.inj (hy.symm.trans hy2)
              exact ⟨_, rfl, _, rfl, y, l, rfl, py.keep s1, .inr ⟨by', k.keep s1⟩⟩
            · obtain ⟨z, rfl, hz, hgz⟩ := hg i (by omega) y2 hy2
              exact ⟨_, rfl, _, rfl, .str z, l, rfl, .str _, .inl ⟨⟨z, rfl, hz, hgz⟩, fun H3 s3 => ⟨_, rfl, s1.trans s3, by omega⟩⟩⟩
          · rintro σ H2 ⟨v2, rfl, s1, hle⟩
            exact (by omega : False).elim
    · have ha1 := ha.keep S1
      rcases ha1 with ha | ha
      · refine ⟨_, tp, _, _, _, true, rfl, A1, cl, .base (.lst ha), is_lst, _, rfl, ?_⟩
        refine ⟨_, rfl, a, rfl, .inl ⟨⟨_, .of ha⟩, for_list (K := K) (a := a) (xs := xs) (fun i σ H' => ∃ v2 : Option V, σ = [some (.ref a), some (.str l), v2] ∧ Same H1 H') ⟨_, rfl, .refl _⟩ (fun i σ H' _ ⟨_, _, s⟩ => .of (s _ _ ha)) ?_ ?_⟩⟩
        · rintro i y2 σ H2 hy2 ⟨v2, rfl, s1⟩
          obtain ⟨z, rfl, hz, hgz⟩ := hg y2 (List.mem_of_getElem? hy2)
          exact ⟨_, rfl, _, rfl, .str z, l, rfl, .str _, .inl ⟨⟨z, rfl, hz, hgz⟩, fun H3 s3 => ⟨_, rfl, s1.trans s3⟩⟩⟩
        · rintro σ H2 ⟨v2, rfl, s1⟩
          exact k H2 (S1.trans s1)
      · refine ⟨_, tp, _, _, _, true, rfl, A1, cl, .base (.tup ha), is_tup, _, rfl, ?_⟩
        refine ⟨_, rfl, a, rfl, .inr ⟨⟨_, .inl (.inl ha)⟩, for_it (walk_tup (K := K) (a := a) (xs := xs)) (fun i σ H' => ∃ v2 : Option V, σ = [some (.ref a), some (.str l), v2] ∧ Same H1 H') ⟨_, rfl, .refl _⟩ (fun i σ H' _ ⟨_, _, s⟩ => .inl (.inl (s _ _ ha))) ?_ ?_⟩⟩
        · rintro i y2 σ H2 H3 hi ⟨v2, rfl, s1⟩ ⟨rfl, hy2⟩
          obtain ⟨z, rfl, hz, hgz⟩ := hg y2 (List.mem_of_getElem? hy2)
          exact ⟨_, rfl, _, rfl, .str z, l, rfl, .str _, .inl ⟨⟨z, rfl, hz, hgz⟩, fun H3 s3 => ⟨_, rfl, s1.trans s3⟩⟩⟩
        · rintro σ H2 ⟨v2, rfl, s1⟩
          exact k H2 (S1.trans s1)
end
end T74

set_option Elab.async false
set_option linter.all false
set_option maxRecDepth 100000
set_option maxHeartbeats 4000000
namespace T74
open PySem PySem.Spec PyProof.Rows L2 EK
theorem yes_i {σ : L2.St} {H : Hp} {Q : Bool → Hp → Prop} (h : Q true H) : tYes σ H Q := h
section
variable {P : Program} {w : World} {K : PySem.W.Frag} {mg : Str → Option Value} {base : Heap} {C iC : Addr}
theorem scLA : FnScope ["text", "letters", "size", "parts", "longer", "word", "begin", "end", "part", "letter"] ["text", "letters"] (defScope sLA) := ⟨rfl, rfl, rfl, by decide +kernel, rfl, by decide +kernel, by decide +kernel⟩
theorem ok_LA {f fCT fCS : Addr} {fd fdCT fdCS : FuncData} (F : Fun K "least_absent" "least_absent" sLA f fd)
    (GCT : FnOk P w K mg base (L2.CX P w) 4 fCT fdCT ["text"] (spCk C isT)) (gCT : mg "check_text" = some (.ref fCT)) (kCT : PySem.W.keepIn K (.ref fCT) = true) (bCT : Binds K fdCT ["text"] []) (GCS : FnOk P w K mg base (L2.CX P w) 4 fCS fdCS ["letters", "text"] (spCkSL C)) (gCS : mg "check_sorted_letters" = some (.ref fCS)) (kCS : PySem.W.keepIn K (.ref fCS) = true) (bCS : Binds K fdCS ["letters", "text"] []) :
    FnOk P w K mg base (L2.CX P w) 5 f fd ["text", "letters"] (spLA C) := by
  refine F.okX scLA (fun vs H Q E h => ?_) (fun cdv A outer s H vs Q E hr h => ?_)
  · obtain ⟨x, y, rfl, _⟩ := h
    rfl
  · obtain ⟨x, y, rfl, hx, h⟩ := h
    have nd := scLA.nd
    have hr4 : Room 4 _ := hr
    refine ⟨_, pss_cons (ps_expr (pe_call GCT hr4 rfl gCT kCT bCT .nil (passes_call (takes_of rfl rfl rfl rfl) fun _ _ _ _ h => h) (pa_cons (pv 0) pa_nil))) (pss_cons (ps_expr (pe_call GCS hr4 rfl gCS kCS bCS .nil (passes_call (takes_of rfl rfl rfl rfl) fun _ _ _ _ h => h) (pa_cons (pv 1) (pa_cons (pv 0) pa_nil)))) pss_never), ?_⟩
    rcases h with h | ⟨t, rfl, ht, hT, hy, hb, h⟩
    · exact ⟨_, rfl, x, rfl, hx, .inr h⟩
    · exact ⟨_, rfl, _, rfl, hx, .inl ⟨t, rfl, ht, hT, fun H1 s1 => ⟨_, rfl, _, rfl, y, t, rfl, hy.keep s1, ht, .inr ⟨hb, h.keep s1⟩⟩⟩⟩
theorem scLeast : FnScope ["words", "one", "other"] ["words"] (defScope sLeast) := ⟨rfl, rfl, rfl, by decide +kernel, rfl, by decide +kernel, by decide +kernel⟩
theorem ok_Least {f : Addr} {fd : FuncData} (F : Fun K "_is_least" "_is_least" sLeast f fd) (T : TxtC K mg) : FnOk P w K mg base CX0 1 f fd ["words"] spLeast := by
  refine F.ok scLeast (fun vs H Q E h => ?_) (fun cdv A outer s H vs Q E hr h => ?_)
  · obtain ⟨a, xs, rfl, _⟩ := h
    rfl
  · obtain ⟨a, xs, rfl, ha, hl, ⟨u, v, hu, hv, ne, pt⟩, k⟩ := h
    have nd := scLeast.nd
    have hz : sizeLine = 2 ^ 24 := sizeLine_eq
    obtain ⟨i0, hi0⟩ := List.mem_iff_getElem?.mp hu
    obtain ⟨j0, hj0⟩ := List.mem_iff_getElem?.mp hv
    refine ⟨_, pss_one (ps_ret (pe_callB (cr_all rfl) (by rfl) T.all (by decide +kernel) (pa_cons (pe_lc2 (wi1 := iList K (tVar 0)) (own := [("one", 1), ("other", 2)]) (vs1 := [2]) (g := gName 1) (g1 := gName 2) (tt := tYes) (tt1 := tYes) rfl nd (pi_list (pv 0)) (blkOk_by (N := ["words", "one", "other"]) (sc := defScope sLeast) (by decide +kernel)) (by decide) (fun _ _ _ _ _ => (pg_name (i := 1) nd rfl (Or.inl rfl))) (fun _ _ _ _ _ => pts_nil) (fun _ _ _ _ _ => pi_list (pv 0)) (fun _ _ _ _ _ => (pg_name (i := 2) nd rfl (Or.inl rfl))) (fun _ _ _ _ _ => pts_nil) (fun _ _ _ _ _ => (pe_or (pe_cmpR op_eq (pv 1) (pv 2) (nomark _)) (pe_one (pe_cmpR op_notin_str (pv 1) (pv 2) (by rfl)))))) pa_nil))), ?_⟩
    refine ⟨_, rfl, a, rfl, ⟨_, .of ha⟩, fun D hD => ?_⟩
    have ub : ∀ x ∈ xs, True := fun _ _ => trivial
    have li : i0 < xs.length := (List.getElem?_eq_some_iff.mp hi0).1
    have lj : j0 < xs.length := (List.getElem?_eq_some_iff.mp hj0).1
    have at_ : ∀ {H' : Hp}, Same H H' → SqL K H' a (xs.map V.str) := fun s => .of (s _ _ ha)
    have el : ∀ {i : Nat} {y : V} (p : i < xs.length), (∀ ys, SqL K H a ys → ys[i]? = some y) → y = .str (xs[i]'p) := fun {i y} p q => by
      have e := q _ (at_ (.refl _))
      rw [List.getElem?_map, List.getElem?_eq_getElem p] at e
      exact (Option.some.inj e).symm
    refine ⟨fun i m H1 => m = xs.length - i ∧ i ≤ xs.length ∧ ∃ bs : List Bool, Same H H1 ∧ H1 D = some (.lst (bs.map V.bl)) ∧ bs.length ≤ i * xs.length ∧ (i0 < i → false ∈ bs), ⟨xs.length, by simp, Nat.zero_le _, [], fun b o e => by rw [upd_ne (ne_of_none e hD)]; exact e, upd_same, by simp, fun z => absurd z (Nat.not_lt_zero _)⟩, ?_⟩
    rintro i m H1 ⟨rfl, hi, bs, s1, d1, l1, f1⟩
    by_cases hlt : i < xs.length
    · refine .inr ⟨⟨_, .str (xs[i]'hlt), at_ s1, by rw [List.getElem?_map, List.getElem?_eq_getElem hlt]; rfl⟩, fun H2 => ∃ bs : List Bool, Same H H2 ∧ H2 D = some (.lst (bs.map V.bl)) ∧ bs.length ≤ (i + 1) * xs.length ∧ (i0 < i + 1 → false ∈ bs), fun H2 h => ⟨xs.length - (i + 1), by omega, rfl, hlt, h⟩, ?_⟩
      rintro x H2 ⟨rfl, hx⟩
      have hx' : x = .str (xs[i]'hlt) := by
        have e := hx _ (at_ s1)
        rw [List.getElem?_map, List.getElem?_eq_getElem hlt] at e
        exact (Option.some.inj e).symm
      subst hx'
      refine ⟨rfl, ?_⟩
      refine yes_i ?_; refine ite_yes rfl ?_
      refine ⟨_, rfl, a, rfl, ⟨_, at_ s1⟩, fun j k H1 => k = xs.length - j ∧ j ≤ xs.length ∧ ∃ bs : List Bool, Same H H1 ∧ H1 D = some (.lst (bs.map V.bl)) ∧ bs.length ≤ i * xs.length + j ∧ ((i0 < i ∨ (i0 = i ∧ j0 < j)) → false ∈ bs), ⟨xs.length, by simp, Nat.zero_le _, bs, s1, d1, by simpa using l1, fun z => f1 (by omega)⟩, ?_⟩
      rintro j k2 H3 ⟨rfl, hj, bs2, s3, d3, l3, f3⟩
      by_cases hjl : j < xs.length
      · refine .inr ⟨⟨_, .str (xs[j]'hjl), at_ s3, by rw [List.getElem?_map, List.getElem?_eq_getElem hjl]; rfl⟩, fun H2 => ∃ bs : List Bool, Same H H2 ∧ H2 D = some (.lst (bs.map V.bl)) ∧ bs.length ≤ i * xs.length + (j + 1) ∧ ((i0 < i ∨ (i0 = i ∧ j0 < j + 1)) → false ∈ bs), fun H2 h => ⟨xs.length - (j + 1), by omega, rfl, hjl, h⟩, ?_⟩
        rintro y H4 ⟨rfl, hy⟩
        have hy' : y = .str (xs[j]'hjl) := by
          have e := hy _ (at_ s3)
          rw [List.getElem?_map, List.getElem?_eq_getElem hjl] at e
          exact (Option.some.inj e).symm
        subst hy'
        refine ⟨rfl, ?_⟩
        refine yes_i ?_; refine ite_yes rfl ?_
        have len : bs2.length < sizeLine := by
          have : i * xs.length ≤ 100 * 100 := Nat.mul_le_mul (by omega) hl
          omega
        have keepD : ∀ bb : Bool, Same H (upd H4 D (.lst ((bs2 ++ [bb]).map V.bl))) := fun bb b o e => by
          rw [upd_ne (ne_of_none e hD)]
          exact s3 _ _ e
        have put : ∀ bb : Bool, ((i0 = i ∧ j0 = j) → bb = false) → ∃ acc, H4 D = some (HO.lst acc) ∧ acc.length < sizeLine ∧ ∃ bs : List Bool, Same H (upd H4 D (.lst (acc ++ [V.bl bb]))) ∧ (upd H4 D (.lst (acc ++ [V.bl bb]))) D = some (.lst (bs.map V.bl)) ∧ bs.length ≤ i * xs.length + (j + 1) ∧ ((i0 < i ∨ (i0 = i ∧ j0 < j + 1)) → false ∈ bs) := fun bb hb => by
          refine ⟨_, d3, by rw [List.length_map]; exact len, bs2 ++ [bb], ?_, by rw [upd_same, List.map_append]; rfl, by rw [List.length_append]; show bs2.length + 1 ≤ _; omega, fun z => ?_⟩
          · have := keepD bb
            rw [List.map_append] at this
            exact this
          · by_cases e : i0 = i ∧ j0 = j
            · rw [hb e]
              exact List.mem_append_right _ (List.mem_singleton.mpr rfl)
            · exact List.mem_append_left _ (f3 (by omega))
        refine ⟨_, rfl, _, rfl, rfl, _, rfl, ?_⟩
        by_cases eq : (V.str (xs[i]'hlt)) = V.str (xs[j]'hjl)
        · rw [decide_eq_true eq, if_pos rfl]
          refine put true fun ⟨e1, e2⟩ => ?_
          subst e1 e2
          rw [List.getElem?_eq_getElem hlt] at hi0
          rw [List.getElem?_eq_getElem hjl] at hj0
          refine absurd ?_ ne
          rw [← Option.some.inj hi0, ← Option.some.inj hj0]
          exact V.str.inj eq
        · rw [decide_eq_false eq, if_neg (by decide)]
          refine ⟨_, rfl, _, rfl, _, _, rfl, rfl, put _ fun ⟨e1, e2⟩ => ?_⟩
          subst e1 e2
          rw [List.getElem?_eq_getElem hlt] at hi0
          rw [List.getElem?_eq_getElem hjl] at hj0
          have e := pt
          rw [← Option.some.inj hi0, ← Option.some.inj hj0] at e
          unfold partB at e
          rw [e]
          rfl
      · have ej : j = xs.length := by omega
        subst ej
        refine .inl ⟨⟨_, at_ s3, by rw [List.length_map]; exact Nat.le_refl _⟩, bs2, s3, d3, by rw [Nat.succ_mul]; exact l3, fun z => f3 (by omega)⟩
    · have ei : i = xs.length := by omega
      subst ei
      refine .inl ⟨⟨_, at_ s1, by rw [List.length_map]; exact Nat.le_refl _⟩, D, _, rfl, .of d1, ?_⟩
      have e : bs.all id = false := by
        rw [List.all_eq_false]
        exact ⟨false, f1 li, by simp⟩
      rw [e]
      exact k H1 s1
theorem scTA : FnScope ["words", "letters", "absent", "net", "states"] ["words", "letters"] (defScope sTA) := ⟨rfl, rfl, rfl, by decide +kernel, rfl, by decide +kernel, by decide +kernel⟩
theorem ok_TA {f fCS fCA fLE : Addr} {fd fdCS fdCA fdLE : FuncData} (F : Fun K "text_of_absent" "text_of_absent" sTA f fd) (T : TxtC K mg)
    (GCS : FnOk P w K mg base (L2.CX P w) 4 fCS fdCS ["letters", "text"] (spCkSL C)) (gCS : mg "check_sorted_letters" = some (.ref fCS)) (kCS : PySem.W.keepIn K (.ref fCS) = true) (bCS : Binds K fdCS ["letters", "text"] []) (GCA : FnOk P w K mg base (L2.CX P w) 5 fCA fdCA ["words", "letters"] (spCA C)) (gCA : mg "_check_absent" = some (.ref fCA)) (kCA : PySem.W.keepIn K (.ref fCA) = true) (bCA : Binds K fdCA ["words", "letters"] []) (GLE : FnOk P w K mg base CX0 1 fLE fdLE ["words"] (spLeast)) (gLE : mg "_is_least" = some (.ref fLE)) (kLE : PySem.W.keepIn K (.ref fLE) = true) (bLE : Binds K fdLE ["words"] []) :
    FnOk P w K mg base (L2.CX P w) 6 f fd ["words", "letters"] (spTA C) := by
  refine F.okX scTA (fun vs H Q E h => ?_) (fun cdv A outer s H vs Q E hr h => ?_)
  · obtain ⟨x, y, rfl, _⟩ := h
    rfl
  · obtain ⟨x, y, rfl, hy, h⟩ := h
    have nd := scTA.nd
    have hr5 : Room 5 _ := hr
    have hr4 : Room 4 _ := hr5.mono (by decide)
    have hr1 : Room 1 _ := hr5.mono (by decide)
    refine ⟨_, pss_cons (ps_expr (pe_call GCS hr4 rfl gCS kCS bCS .nil (passes_call (takes_of rfl rfl rfl rfl) fun _ _ _ _ h => h) (pa_cons (pv 1) (pa_cons pe_str pa_nil)))) (pss_cons (ps_expr (pe_call GCA hr5 rfl gCA kCA bCA .nil (passes_call (takes_of rfl rfl rfl rfl) fun _ _ _ _ h => h) (pa_cons (pv 0) (pa_cons (pv 1) pa_nil)))) (pss_cons (ps_set (i := 2) nd rfl (Or.inl rfl) (pe_sortSetL rfl (by rfl) T.sorted (by rfl) T.set (pv 0))) (pss_cons (ps_if (pt_not (pt_val (pe_call GLE hr1 rfl gLE kLE bLE .nil pass0 (pa_cons (pv 2) pa_nil)))) (pss_one (ps_ret pe_non)) pss_nil) pss_never))), ?_⟩
    have e0 : ("" : Str).cps.size ≤ 100 := by decide
    rcases h with ⟨hb, h⟩ | ⟨l, rfl, hg, h⟩
    · exact ⟨_, rfl, y, _, rfl, hy, e0, .inr ⟨hb, h⟩⟩
    refine ⟨_, rfl, _, _, rfl, hy, e0, .inl ⟨hg, fun H1 s1 => ?_⟩⟩
    rcases h with h | ⟨a, xs, rfl, ha, hgs, hl, ⟨u, v, hu, hv, ne, pt⟩, k⟩
    · exact ⟨_, rfl, _, rfl, x, l, rfl, .inl fun H2 s2 => h H2 (s1.trans s2)⟩
    refine ⟨_, rfl, _, rfl, _, l, rfl, .inr ⟨a, _, rfl, .inl (s1 _ _ ha), fun y hy => ?_, fun H2 s2 => ?_⟩⟩
    · obtain ⟨z, hz, rfl⟩ := List.mem_map.mp hy
      exact hgs z hz
    refine ⟨_, rfl, a, xs, rfl, .of ((s1.trans s2) _ _ ha), by omega, fun ys p hp hs hn => ?_⟩
    have small := ddS_len xs
    have few : ys.length ≤ 100 := by rw [hp.length_eq]; omega
    refine ⟨_, rfl, p, ys, rfl, upd_same, few, ⟨u, v, hp.mem_iff.mpr ((ddS_mem xs u).mpr hu), hp.mem_iff.mpr ((ddS_mem xs v).mpr hv), ne, pt⟩, fun H3 s3 => ?_⟩
    refine ⟨false, rfl, ?_⟩
    refine ite_yes rfl ?_
    exact k H3 (fun b o e => s3 _ _ (by rw [upd_ne (ne_of_none ((s1.trans s2) _ _ e) hn)]; exact (s1.trans s2) _ _ e))
end
end T74

set_option Elab.async false
set_option linter.all false
set_option maxRecDepth 100000
set_option maxHeartbeats 4000000
namespace T74
open PySem PySem.Spec PyProof.Rows L2 EK LamX
abbrev sSaid : Stmt := top 35
/-- what the law asks of the classes -/
structure Kinds (K : PySem.W.Frag) (mg : Str → Option Value) (E0 CT CN : Addr) : Prop where
  isinstance : mg "isinstance" = none
  valueError : mg "ValueError" = none
  g0 : mg "TurnError" = some (.ref E0)
  gCT : mg "NoText" = some (.ref CT)
  gCN : mg "NoNumber" = some (.ref CN)
  xCT : ExcC K CT
  kCTE0 : PySem.W.kitOne K (.ref CT) (.ref E0) = some true
  kCTVE : PySem.W.kitOne K (.ref CT) (.type "ValueError") = some true
  kCTCN : PySem.W.kitOne K (.ref CT) (.ref CN) = some false
  eCTCT : PySem.W.exmOne K (.ref CT) (.ref CT) = some true
def errL1 (C : Addr) (f : Str) (Q : VK) : XK := fun cls d H => cls = .ref C ∧ ∃ (dd : Addr) (v : V), d = some dd ∧ H dd = some (.xd [(f, v)]) ∧ ∀ p, H p = none → Q (.ref p) (upd H p (.lst [v]))
def wSay (CT : Addr) (Q : VK) : XK := errL1 CT "text" Q
def TSay (CT : Addr) : (XK → Hp → VK → Prop) → Hp → VK → Prop := fun tl H Q => tl (wSay CT Q) H fun _ H1 => Q (.str "told") H1
theorem scSaid : FnScope ["_law_ask", "_law_is_right", "e"] ["_law_ask"] (defScope sSaid) := ⟨rfl, rfl, rfl, by decide +kernel, rfl, by decide +kernel, by decide +kernel⟩
section
variable {X : Cx} {E0 CT CN iT : Addr}
theorem said_gives {q : Str} {g : Addr} {cdg : Value} (M : Kinds X.K X.mg E0 CT CN) (T1 : ErrTxt X.prog X.K X.mg "NoText" "text" CT iT) :
    GivesTo X ["_law_ask", "_law_is_right", "e"] "_law_said" (defScope sSaid) g cdg (defBody sSaid) "_law_ask" q (TSay CT) := by
  intro f c' s H Q tl act hc h
  have nd := scSaid.nd
  refine ⟨_, pss_cons (ps_tryC (X := (cxOf C8.CX0 X.prog X.w X.K X.mg X.base ["_law_ask", "_law_is_right", "e"] "_law_said" (defScope sSaid) g cdg X.A X.stack s H C8.E0).nox)
      (tb := fun W D σ H => ∃ Ech : XK, (∀ cls d σ' H', Ech cls d H' → W cls d σ' H') ∧ σ[0]? = some (some (.ref f)) ∧ H c' = some (CodeO c' q) ∧ tl Ech H (fun _ H1 => D.nx σ H1))
      (l := [⟨.ref CT, some 2, _⟩, ⟨.ref E0, none, _⟩])
      rfl rfl nd LamX.takes0 (fun W pn xe tk _ => ?_)
      (ClOk.as rfl rfl ⟨rfl, by decide, .inl M.gCT⟩ (fun a oe cls d pn hz hf => pss_cons (ps_set (i := 1) nd rfl (Or.inl rfl) (pe_and (pe_callB (call_isX hz hf) (by rfl) M.isinstance (by decide +kernel) (pa_cons (pv 2) (pa_cons (pe_glob (v := .ref E0) rfl M.g0 rfl) pa_nil))) (pe_and (pe_callB (call_isX hz hf) (by rfl) M.isinstance (by decide +kernel) (pa_cons (pv 2) (pa_cons (pe_bltn (v := .ty "ValueError") rfl M.valueError (by decide +kernel) rfl) pa_nil))) (pe_one (pe_not (pe_callB (call_isX hz hf) (by rfl) M.isinstance (by decide +kernel) (pa_cons (pv 2) (pa_cons (pe_glob (v := .ref CN) rfl M.gCN rfl) pa_nil))))))))
          (pss_one (ps_ret (pe_ifExp (pt_val (pv 1)) (pe_lst (pa_cons (pe_xf T1.xf T1.noN hz hf (pv 2)) pa_nil)) pe_str))))
        (ClOk.un ⟨rfl, by decide, .inl M.g0⟩ (fun a oe cls d pn hz hf => pss_one (ps_ret pe_str)) .nil))) (pss_one (ps_ret pe_str)), ?_⟩
  · refine ⟨fun pins s' σ H' D I h' => ?_⟩
    obtain ⟨Ech, hW, h1, h2, h3⟩ := h'
    have hp := fun p1 p2 => act W pn xe Ech p1 p2 tk hW
    have hq := fun p1 p2 p3 => pss_one (ps_expr (pos := p3) (hp p1 p2))
    exact (hq _ _ _).run pins s' σ H' D I ⟨h1, h2, h3⟩
  · refine ⟨wSay CT Q, fun cls d σ' H' hw => ?_, rfl, hc, h⟩
    have one : ∀ x : V, [x].length ≤ sizeLine := fun x => by show 1 ≤ sizeLine; decide
    have s2 : ∀ (y : V), 2 < σ'.length → (σ'.set 2 (some y))[2]? = some (some y) := fun y hl => by rw [List.getElem?_set_self hl]
    have s1 : ∀ (x y : V), 2 < σ'.length → ((σ'.set 2 (some y)).set 1 (some x))[1]? = some (some x) := fun x y hl => List.getElem?_set_self (by rw [List.length_set]; omega)
    have s3 : ∀ (x y : V), 2 < σ'.length → ((σ'.set 2 (some y)).set 1 (some x))[2]? = some (some y) := fun x y hl => by rw [List.getElem?_set_ne (by decide), List.getElem?_set_self hl]
    obtain ⟨rfl, dd, v, rfl, hd, k⟩ := hw
    refine ⟨true, M.eCTCT, fun _ a ha hl => ?_, fun z => by cases z⟩
    refine ⟨_, s2 _ hl, CT, dd, _, _, _, true, rfl, rfl, rfl, hd, M.xCT, .own E0, M.kCTE0, _, rfl, ?_⟩
    refine ⟨_, s2 _ hl, CT, dd, _, _, _, true, rfl, rfl, rfl, hd, M.xCT, .ty _, M.kCTVE, _, rfl, ?_⟩
    refine ⟨_, s2 _ hl, CT, dd, _, _, _, false, rfl, rfl, rfl, hd, M.xCT, .own CN, M.kCTCN, _, rfl, ?_⟩
    refine ⟨_, s1 _ _ hl, _, rfl, ?_⟩
    refine ite_yes rfl ?_
    exact ⟨_, s3 _ _ hl, rfl, rfl, dd, _, v, rfl, hd, look1 _ _, one _, k⟩
end
end T74

set_option Elab.async false
set_option linter.all false
set_option maxRecDepth 100000
set_option maxHeartbeats 4000000
namespace T74
open PySem PySem.Spec PyProof.Rows L2 EK LamX
abbrev sR1 : Stmt := top 36
abbrev sR2 : Stmt := top 37
abbrev sLaw : Stmt := top 38
abbrev q1 : Str := ("_law_letters_right" : Str) ++ ".<locals>." ++ "<lambda>"
abbrev q2 : Str := ("_law_words_right" : Str) ++ ".<locals>." ++ "<lambda>"
abbrev T2 (P1 P2 : Addr) : List (Addr × Str) := [(P1, q1), (P2, q2)]
theorem only1 {P1 P2 : Addr} (h : P1 ≠ P2) : ∀ p ∈ T2 P1 P2, p.1 = P1 → p.2 = q1 := fun p hp e => by
  rcases List.mem_cons.mp hp with rfl | hp
  · rfl
  · rw [List.mem_singleton.mp hp] at e
    exact absurd e.symm h
theorem only2 {P1 P2 : Addr} (h : P1 ≠ P2) : ∀ p ∈ T2 P1 P2, p.1 = P2 → p.2 = q2 := fun p hp e => by
  rcases List.mem_cons.mp hp with rfl | hp
  · exact absurd e h
  · rw [List.mem_singleton.mp hp]
theorem Pl.keepN {H H' : Hp} {x : V} (h : Pl H x) (s : ExtN H H') : Pl H' x := by
  cases h with
  | non => exact .non
  | int i => exact .int i
  | str z => exact .str z
  | bl b => exact .bl b
  | tup e => exact .tup (s _ _ e fun _ z => by cases z)
  | lst e => exact .lst (s _ _ e fun _ z => by cases z)
  | dct e => exact .dct (s _ _ e fun _ z => by cases z)
theorem WellAt.keepN {H H' : Hp} {a : Addr} {n : Int} (h : WellAt H a n) (s : ExtN H H') : WellAt H' a n := by
  obtain ⟨w0, w1, w2, e, r⟩ := h
  exact ⟨w0, w1, w2, s _ _ e (fun _ z => by cases z), r⟩
theorem Pl.keepW {H H' : Hp} {wl : Addr} {n n' : Int} {x : V} (h : Pl H x) (w : WellAt H wl n) (w' : WellAt H' wl n') (s : KeepB wl H H') : Pl H' x := by
  obtain ⟨_, _, _, ew, _⟩ := w
  obtain ⟨_, _, _, ew', _⟩ := w'
  cases h with
  | non => exact .non
  | int i => exact .int i
  | str z => exact .str z
  | bl b => exact .bl b
  | @tup a xs e => exact .tup (s _ _ e fun z => by rw [z, ew] at e; cases e)
  | @lst a xs e =>
    by_cases z : a = wl
    · rw [z]
      exact .lst ew'
    · exact .lst (s _ _ e z)
  | @dct a kvs e => exact .dct (s _ _ e fun z => by rw [z, ew] at e; cases e)
theorem alloc_d {H : Hp} {p : Addr} {kvs : List (Key × V)} (hp : H p = none) : ∃ H1, upd (upd H p (.dK [])) p (.dK kvs) = H1 ∧ Same H H1 ∧ H1 p = some (.dK kvs) :=
  ⟨_, rfl, fun b u e => by rw [upd_ne (ne_of_none e hp), upd_ne (ne_of_none e hp)]; exact e, upd_same⟩
theorem _root_.LamX.Tabs.keepW {T : List (Addr × Str)} {H H' : Hp} {wl : Addr} {n : Int} (t : Tabs T H) (w : WellAt H wl n) (s : KeepB wl H H') : Tabs T H' := fun p hp => by
  obtain ⟨w0, w1, w2, ew, _⟩ := w
  obtain ⟨ps, h1, h2, h3⟩ := t p hp
  refine ⟨ps, s _ _ h1 (fun z => by rw [z, ew] at h1; cases h1), h2, fun pos cv hc => ?_⟩
  obtain ⟨c, e1, e2⟩ := h3 pos cv hc
  refine ⟨c, e1, s _ _ e2 fun z => ?_⟩
  rw [z, ew] at e2
  unfold CodeO at e2
  cases e2
theorem Pl.nf {H : Hp} {x : V} (h : Pl H x) : ∀ c, x ≠ .flt c := fun c e => by
  subst e
  cases h
theorem same_one {K : PySem.W.Frag} {H : Hp} {x : V} (nf : ∀ c, x ≠ .flt c) : ∀ (i : Nat) u v, [x][i]? = some u → [x][i]? = some v → Sm K H 60 u v := fun i u v h1 h2 => by
  obtain rfl : u = v := Option.some.inj (h1.symm.trans h2)
  refine .rf u fun b z => ?_
  rw [List.mem_singleton.mp (List.mem_of_getElem? h1)] at z
  exact nf b z
/-- _law_said, as the top holds it -/
structure SaidAt (K : PySem.W.Frag) (mg : Str → Option Value) (fQ : Addr) (dVQ kVQ docQ pmQ cdQ ctQ ocQ : Value) (anQ odQ : Option Addr) (oslQ : Array (Option Value)) : Prop where
  lk : K.lookup fQ = some ⟨ocQ, odQ, .func (PySem.W.fnOf "_law_said" "_law_said" (defArgs sSaid) (defBody sSaid) (defScope sSaid) dVQ kVQ docQ pmQ anQ cdQ ctQ), oslQ⟩
  g : mg "_law_said" = some (.ref fQ)
  k : PySem.W.keepIn K (.ref fQ) = true
  c : PySem.W.codeIn K cdQ "_law_said" = true
  b : Binds K (PySem.W.fnOf "_law_said" "_law_said" (defArgs sSaid) (defBody sSaid) (defScope sSaid) dVQ kVQ docQ pmQ anQ cdQ ctQ) ["_law_ask"] []
theorem badT.of {g g' : Str → Bool} {x : V} (h : badT g x) (k : ∀ z, g z = false → g' z = false) : badT g' x := by
  rcases h with h | ⟨z, e, hz, h⟩
  · exact .inl h
  · exact .inr ⟨z, e, hz, k z h⟩
theorem bad_SL {x : V} {t : Str} (h : badT isT x) : badSL x t := by
  rcases h with h | ⟨z, e, hz, h⟩
  · exact .inl h
  · exact .inr ⟨z, e, hz, .inl (by unfold isLs; rw [h]; rfl)⟩
theorem bad_z {g : Str → Bool} (z : Str) (h : z.cps.size ≤ 100) (b : g z = false) : badT g (.str z) := .inr ⟨z, rfl, h, b⟩
theorem bad_WO {x : V} {l : Str} (h : badT isT x) : badW l x := h.of fun z e => by show (isW z && over z l) = false; unfold isW; rw [e]; rfl
def spR1 (P1 P2 : Addr) : Sp := fun vs H Q _ => ∃ x, vs = [x] ∧ Pl H x ∧ badT isT x ∧ Tabs (T2 P1 P2) H ∧ ∀ H', ExtN H H' → Tabs (T2 P1 P2) H' → Q (.bl true) H'
def spR2 (P1 P2 : Addr) : Sp := fun vs H Q _ => ∃ (wl : Addr) (x : V) (n : Int), vs = [.ref wl, x] ∧ WellAt H wl n ∧ n ≤ 1000000 ∧ Pl H x ∧ badT isT x ∧ Tabs (T2 P1 P2) H ∧ ∀ H', (∀ b o, H b = some o → b ≠ wl → (∀ ps, o ≠ .tbl ps) → H' b = some o) → Tabs (T2 P1 P2) H' → Q (.bl true) H'
def spLaw (K : PySem.W.Frag) (P1 P2 : Addr) : Sp := fun vs H Q _ => ∃ (a : Addr) (ns : List Int), vs = [.ref a] ∧ SqL K H a (ns.map V.int) ∧ ns.length ≤ 63 ∧ H P1 = some (.tbl #[]) ∧ H P2 = some (.tbl #[]) ∧ ∀ H', Q (.bl true) H'
theorem no_text {CT : Addr} {H : Hp} {x : V} {Q : VK} (k : ∀ H1 p, Same H H1 → H1 p = some (.lst [x]) → Q (.ref p) H1) : noX CT "text" H x (wSay CT Q) := fun Hk d sk hd => by
  obtain ⟨Hl, el, Sl, Al⟩ := alloc (o := .xd [("text", x)]) hd
  rw [el]
  refine ⟨rfl, d, x, rfl, Al, fun p hp => ?_⟩
  obtain ⟨Hm, em, Sm', Am⟩ := alloc (o := .lst [x]) hp
  rw [em]
  exact k Hm p ((sk.trans Sl).trans Sm') Am
section
variable {P : Program} {w : World} {K : PySem.W.Frag} {mg : Str → Option Value} {base : Heap} {E0 CT CN iT P1 P2 : Addr} {fQ : Addr} {dVQ kVQ docQ pmQ cdQ ctQ ocQ : Value} {anQ odQ : Option Addr} {oslQ : Array (Option Value)}
theorem scR1 : FnScope ["_law_odd", "_law_letters"] ["_law_odd"] (defScope sR1) := ⟨rfl, rfl, rfl, by decide +kernel, rfl, by decide +kernel, by decide +kernel⟩
theorem scR2 : FnScope ["_law_well_here", "_law_odd", "_law_good", "_law_spot", "_law_wrong", "_law_words"] ["_law_well_here", "_law_odd"] (defScope sR2) := ⟨rfl, rfl, rfl, by decide +kernel, rfl, by decide +kernel, by decide +kernel⟩
theorem scLaw : FnScope ["_law_script", "_law_cell", "_law_well_here", "_law_odd"] ["_law_script"] (defScope sLaw) := ⟨rfl, rfl, rfl, by decide +kernel, rfl, by decide +kernel, by decide +kernel⟩
theorem ok_R1 {f cL : Addr} {dV kV doc pm ct oc : Value} {an od : Option Addr} {osl : Array (Option Value)} (lk : K.lookup f = some ⟨oc, od, .func (PySem.W.fnOf "_law_letters_right" "_law_letters_right" (defArgs sR1) (defBody sR1) (defScope sR1) dV kV doc pm an (.ref cL) ct), osl⟩) (hcd : PySem.W.codeIn K (.ref cL) "_law_letters_right" = true) (TB : TabB base mg cL P1) (hP : P1 ≠ P2)
    (M : Kinds K mg E0 CT CN) (XT : ErrTxt P K mg "NoText" "text" CT iT) (SD : SaidAt K mg fQ dVQ kVQ docQ pmQ cdQ ctQ ocQ anQ odQ oslQ)
    {fLA fTA : Addr} {fdLA fdTA : FuncData}
    (GLA : FnOk P w K mg base (L2.CX P w) 5 fLA fdLA ["text", "letters"] (spLA CT)) (gLA : mg "least_absent" = some (.ref fLA)) (kLA : PySem.W.keepIn K (.ref fLA) = true) (bLA : Binds K fdLA ["text", "letters"] [])
    (GTA : FnOk P w K mg base (L2.CX P w) 6 fTA fdTA ["words", "letters"] (spTA CT)) (gTA : mg "text_of_absent" = some (.ref fTA)) (kTA : PySem.W.keepIn K (.ref fTA) = true) (bTA : Binds K fdTA ["words", "letters"] []) :
    FnOk P w K mg base CX0 9 f (PySem.W.fnOf "_law_letters_right" "_law_letters_right" (defArgs sR1) (defBody sR1) (defScope sR1) dV kV doc pm an (.ref cL) ct) ["_law_odd"] (spR1 P1 P2) := by
  refine fn_of lk hcd scR1 (fun vs H Q E h => ?_) (fun A outer s H vs Q E hr h => ?_)
  · obtain ⟨x, rfl, _⟩ := h
    rfl
  · obtain ⟨x, rfl, px, bx, hT, k⟩ := h
    have nd := scR1.nd
    have hu : (A.deeper (PyProof.Rows.envOfC "_law_letters_right" (defScope sR1) s.heap.objs.size f (.ref cL))).units + 64 < cLine := hr.units
    have hrX : Room 8 _ := hr
    have good : ∀ u ∈ ([V.str "ba", V.str "aa", V.str "abca", V.str "aB", V.str "a b", V.str "ab$"] : List V), Pl H u ∧ badSL u "" := by
      intro u hu
      rcases List.mem_cons.mp hu with rfl | hu
      · exact ⟨.str _, .inr ⟨_, rfl, by decide, .inr ⟨by decide +kernel, .inl srt_ba⟩⟩⟩
      rcases List.mem_cons.mp hu with rfl | hu
      · exact ⟨.str _, .inr ⟨_, rfl, by decide, .inl (by decide +kernel)⟩⟩
      rcases List.mem_cons.mp hu with rfl | hu
      · exact ⟨.str _, .inr ⟨_, rfl, by decide, .inl (by decide +kernel)⟩⟩
      rcases List.mem_cons.mp hu with rfl | hu
      · exact ⟨.str _, .inr ⟨_, rfl, by decide, .inl (by decide +kernel)⟩⟩
      rcases List.mem_cons.mp hu with rfl | hu
      · exact ⟨.str _, .inr ⟨_, rfl, by decide, .inl (by decide +kernel)⟩⟩
      rcases List.mem_cons.mp hu with rfl | hu
      · exact ⟨.str _, .inr ⟨_, rfl, by decide, .inl (by decide +kernel)⟩⟩
      cases hu
    refine ⟨_, PSs.nox (pss_cons (ps_if (pt_cmpR (op_neS hu) (pe_lamcall (T := T2 P1 P2) (TT := TSay CT) (k := 6) rfl SD.g SD.k SD.lk SD.c SD.b scSaid rfl (Or.inl rfl) (said_gives M XT) TB rfl List.mem_cons_self (only1 hP) hrX (lamS_by (sc := defScope sR1) (by decide +kernel)) rfl (fun _ _ _ _ _ => rfl) (fun A outer s H E f c' hr' => pe_call GLA (hr'.mono (by decide)) rfl gLA kLA bLA .nil (passes_call (takes_of rfl rfl rfl rfl) fun _ _ _ _ h => h) (pa_cons (pv 0) (pa_cons (pv 0) pa_nil)))) (pe_lst (pa_cons (pv 0) pa_nil)) (nomark _)) (pss_one (ps_ret pe_bl)) pss_nil)
      (pss_cons (ps_if (pt_cmpR (op_neS hu) (pe_lamcall (T := T2 P1 P2) (TT := TSay CT) (k := 6) rfl SD.g SD.k SD.lk SD.c SD.b scSaid rfl (Or.inl rfl) (said_gives M XT) TB rfl List.mem_cons_self (only1 hP) hrX (lamS_by (sc := defScope sR1) (by decide +kernel)) rfl (fun _ _ _ _ _ => rfl) (fun A outer s H E f c' hr' => pe_call GLA (hr'.mono (by decide)) rfl gLA kLA bLA .nil (passes_call (takes_of rfl rfl rfl rfl) fun _ _ _ _ h => h) (pa_cons pe_str (pa_cons (pv 0) pa_nil)))) (pe_lst (pa_cons (pv 0) pa_nil)) (nomark _)) (pss_one (ps_ret pe_bl)) pss_nil)
      (pss_cons (ps_if (pt_cmpR (op_neS hu) (pe_lamcall (T := T2 P1 P2) (TT := TSay CT) (k := 6) rfl SD.g SD.k SD.lk SD.c SD.b scSaid rfl (Or.inl rfl) (said_gives M XT) TB rfl List.mem_cons_self (only1 hP) hrX (lamS_by (sc := defScope sR1) (by decide +kernel)) rfl (fun _ _ _ _ _ => rfl) (fun A outer s H E f c' hr' => pe_call GTA hr' rfl gTA kTA bTA .nil (passes_call (takes_of rfl rfl rfl rfl) fun _ _ _ _ h => h) (pa_cons (pv 0) (pa_cons (pv 0) pa_nil)))) (pe_lst (pa_cons (pv 0) pa_nil)) (nomark _)) (pss_one (ps_ret pe_bl)) pss_nil)
      (pss_cons (ps_for PassesOwn.never rfl (pi_list (pe_lst (pa_cons pe_str (pa_cons pe_str (pa_cons pe_str (pa_cons pe_str (pa_cons pe_str (pa_cons pe_str pa_nil)))))))) (pg_name (i := 1) nd rfl (Or.inr rfl)) (pss_cons (ps_if (pt_cmpR (op_neS hu) (pe_lamcall (T := T2 P1 P2) (TT := TSay CT) (k := 6) rfl SD.g SD.k SD.lk SD.c SD.b scSaid rfl (Or.inl rfl) (said_gives M XT) TB rfl List.mem_cons_self (only1 hP) hrX (lamS_by (sc := defScope sR1) (by decide +kernel)) rfl (fun _ _ _ _ _ => rfl) (fun A outer s H E f c' hr' => pe_call GLA (hr'.mono (by decide)) rfl gLA kLA bLA .nil (passes_call (takes_of rfl rfl rfl rfl) fun _ _ _ _ h => h) (pa_cons pe_str (pa_cons (pv 1) pa_nil)))) (pe_lst (pa_cons (pv 1) pa_nil)) (nomark _)) (pss_one (ps_ret pe_bl)) pss_nil)
      (pss_one (ps_if (pt_cmpR (op_neS hu) (pe_lamcall (T := T2 P1 P2) (TT := TSay CT) (k := 6) rfl SD.g SD.k SD.lk SD.c SD.b scSaid rfl (Or.inl rfl) (said_gives M XT) TB rfl List.mem_cons_self (only1 hP) hrX (lamS_by (sc := defScope sR1) (by decide +kernel)) rfl (fun _ _ _ _ _ => rfl) (fun A outer s H E f c' hr' => pe_call GTA hr' rfl gTA kTA bTA .nil (passes_call (takes_of rfl rfl rfl rfl) fun _ _ _ _ h => h) (pa_cons (pe_lst (pa_cons pe_str (pa_cons pe_int pa_nil))) (pa_cons (pv 1) pa_nil)))) (pe_lst (pa_cons (pv 1) pa_nil)) (nomark _)) (pss_one (ps_ret pe_bl)) pss_nil))))
      (pss_cons (ps_if (pt_cmpR (op_neS hu) (pe_lamcall (T := T2 P1 P2) (TT := TSay CT) (k := 6) rfl SD.g SD.k SD.lk SD.c SD.b scSaid rfl (Or.inl rfl) (said_gives M XT) TB rfl List.mem_cons_self (only1 hP) hrX (lamS_by (sc := defScope sR1) (by decide +kernel)) rfl (fun _ _ _ _ _ => rfl) (fun A outer s H E f c' hr' => pe_call GLA (hr'.mono (by decide)) rfl gLA kLA bLA .nil (passes_call (takes_of rfl rfl rfl rfl) fun _ _ _ _ h => h) (pa_cons pe_str (pa_cons pe_str pa_nil)))) (pe_lst (pa_cons pe_str pa_nil)) (nomark _)) (pss_one (ps_ret pe_bl)) pss_nil)
      (pss_one (ps_ret (pe_cmpR (op_eqS hu) (pe_lamcall (T := T2 P1 P2) (TT := TSay CT) (k := 6) rfl SD.g SD.k SD.lk SD.c SD.b scSaid rfl (Or.inl rfl) (said_gives M XT) TB rfl List.mem_cons_self (only1 hP) hrX (lamS_by (sc := defScope sR1) (by decide +kernel)) rfl (fun _ _ _ _ _ => rfl) (fun A outer s H E f c' hr' => pe_call GLA (hr'.mono (by decide)) rfl gLA kLA bLA .nil (passes_call (takes_of rfl rfl rfl rfl) fun _ _ _ _ h => h) (pa_cons pe_str (pa_cons pe_str pa_nil)))) (pe_lst (pa_cons pe_str pa_nil)) (nomark _))))))))), ?_⟩
    refine ⟨hT, fun Ha ea Ta => ?_⟩
    have xa := ea
    refine ⟨_, rfl, _, rfl, x, x, rfl, px.keepN xa, .inl ⟨bx, no_text fun H2 p2 sp ap => ?_⟩⟩
    refine ⟨_, rfl, (by show 1 ≤ sizeLine; decide), fun p3 hp3 => ?_⟩
    obtain ⟨H3, e3, S3, A3⟩ := alloc (o := .lst [x]) hp3
    rw [e3]
    refine ⟨.ls (.of (S3 _ _ ap)) (.of A3) rfl (same_one px.nf), _, rfl, ?_⟩
    have x1 : ExtN H H3 := xa.trans (.of (sp.trans S3))
    have T1 := Ta.ext (sp.trans S3)
    clear ap
    refine ⟨T1, fun Hb eb Tb => ?_⟩
    have xb := x1.trans eb
    refine ⟨_, rfl, .str "ab", x, rfl, .str _, .inr ⟨"ab", rfl, by decide, by decide +kernel, px.keepN xb, bad_SL bx, no_text fun H4 p4 s4 ap => ?_⟩⟩
    clear S3
    refine ⟨_, rfl, (by show 1 ≤ sizeLine; decide), fun p3 hp3 => ?_⟩
    obtain ⟨H3, e3, S3, A3⟩ := alloc (o := .lst [x]) hp3
    rw [e3]
    refine ⟨.ls (.of (S3 _ _ ap)) (.of A3) rfl (same_one px.nf), _, rfl, ?_⟩
    have x2 : ExtN H H3 := xb.trans (.of (s4.trans S3))
    have T2' := Tb.ext (s4.trans S3)
    clear ap
    refine ⟨T2', fun Hc ec Tc => ?_⟩
    have xc := x2.trans ec
    refine ⟨_, rfl, _, rfl, x, x, rfl, px.keepN xc, .inl ⟨bad_SL bx, no_text fun H5 p5 s5 ap => ?_⟩⟩
    clear S3
    refine ⟨_, rfl, (by show 1 ≤ sizeLine; decide), fun p3 hp3 => ?_⟩
    obtain ⟨H3, e3, S3, A3⟩ := alloc (o := .lst [x]) hp3
    rw [e3]
    refine ⟨.ls (.of (S3 _ _ ap)) (.of A3) rfl (same_one px.nf), _, rfl, ?_⟩
    have x3 : ExtN H H3 := xc.trans (.of (s5.trans S3))
    have T3' := Tc.ext (s5.trans S3)
    clear ap
    refine ⟨(by show 6 ≤ sizeLine; decide), fun l zl => ?_⟩
    obtain ⟨HL, eL, SL, AL⟩ := alloc (o := .lst [V.str "ba", V.str "aa", V.str "abca", V.str "aB", V.str "a b", V.str "ab$"]) zl
    rw [eL]
    refine ⟨l, rfl, ⟨_, .of AL⟩, for_list (K := K) (a := l) (xs := [V.str "ba", V.str "aa", V.str "abca", V.str "aB", V.str "a b", V.str "ab$"]) (fun i σ H' => ∃ v1 : Option V, σ = [some x, v1] ∧ ExtN HL H' ∧ Tabs (T2 P1 P2) H') ⟨_, rfl, .refl _, T3'.ext SL⟩ (fun i σ H' _ ⟨_, _, s, _⟩ => .of (s _ _ AL fun _ z => by cases z)) ?_ ?_⟩
    · rintro i u σ Hw hi ⟨v1, rfl, sw, Tw⟩
      obtain ⟨pu, bu⟩ := good u (List.mem_of_getElem? hi)
      have xw : ExtN H Hw := (x3.trans (.of SL)).trans sw
      refine ⟨Tw, fun Hj eN Tj => ?_⟩
      refine ⟨_, rfl, .str "", u, rfl, .str _, .inr ⟨"", rfl, by decide, by decide +kernel, pu.keepN (xw.trans eN), bu, no_text fun H6 p6 s6 ap => ?_⟩⟩
      clear S3
      refine ⟨_, rfl, (by show 1 ≤ sizeLine; decide), fun p3 hp3 => ?_⟩
      obtain ⟨H3, e3, S3, A3⟩ := alloc (o := .lst [u]) hp3
      rw [e3]
      refine ⟨.ls (.of (S3 _ _ ap)) (.of A3) rfl (same_one pu.nf), _, rfl, ?_⟩
      have xj : ExtN Hw H3 := eN.trans (.of (s6.trans S3))
      have Tj' := Tj.ext (s6.trans S3)
      clear ap
      refine ⟨Tj', fun Hk eK Tk => ?_⟩
      refine ⟨(by show 2 ≤ sizeLine; decide), fun t zt => ?_⟩
      obtain ⟨Ht, et, St, At⟩ := alloc (o := .lst [.str "x", .int 5]) zt
      rw [et]
      refine ⟨_, rfl, .ref t, u, rfl, pu.keepN (((xw.trans xj).trans eK).trans (.of St)), .inl ⟨bu, no_text fun H7 p7 s7 ap => ?_⟩⟩
      clear S3
      refine ⟨_, rfl, (by show 1 ≤ sizeLine; decide), fun p3 hp3 => ?_⟩
      obtain ⟨H3, e3, S3, A3⟩ := alloc (o := .lst [u]) hp3
      rw [e3]
      refine ⟨.ls (.of (S3 _ _ ap)) (.of A3) rfl (same_one pu.nf), _, rfl, ?_⟩
      exact ⟨_, rfl, sw.trans ((xj.trans eK).trans (.of (St.trans (s7.trans S3)))), Tk.ext (St.trans (s7.trans S3))⟩
    · rintro σ Hw ⟨v1, rfl, sw, Tw⟩
      have x4 : ExtN H Hw := (x3.trans (.of SL)).trans sw
      clear S3
      refine ⟨Tw, fun Hd ed Td => ?_⟩
      refine ⟨.str "abz", .str "ab", rfl, .str _, .inr ⟨"abz", rfl, by decide, by decide +kernel, .str _, .inr ⟨"ab", rfl, by decide, .inr ⟨by decide +kernel, .inr ⟨srt_ab, by decide +kernel⟩⟩⟩, no_text fun H6 p6 s6 ap => ?_⟩⟩
      refine ⟨(by show 1 ≤ sizeLine; decide), fun p3 hp3 => ?_⟩
      obtain ⟨H3, e3, S3, A3⟩ := alloc (o := .lst [.str "ab"]) hp3
      rw [e3]
      refine ⟨.ls (.of (S3 _ _ ap)) (.of A3) rfl (same_one (fun c z => by cases z)), _, rfl, ?_⟩
      have x5 : ExtN H H3 := (x4.trans ed).trans (.of (s6.trans S3))
      have T5 := Td.ext (s6.trans S3)
      clear ap
      refine ⟨T5, fun He ee Te => ?_⟩
      refine ⟨.str "a", .str "", rfl, .str _, .inr ⟨"a", rfl, by decide, by decide +kernel, .str _, .inr ⟨"", rfl, by decide, .inr ⟨by decide +kernel, .inr ⟨srt_nil, by decide +kernel⟩⟩⟩, no_text fun H7 p7 s7 ap => ?_⟩⟩
      clear S3
      refine ⟨(by show 1 ≤ sizeLine; decide), fun p3 hp3 => ?_⟩
      obtain ⟨H3, e3, S3, A3⟩ := alloc (o := .lst [.str ""]) hp3
      rw [e3]
      refine ⟨.ls (.of (S3 _ _ ap)) (.of A3) rfl (same_one (fun c z => by cases z)), ?_⟩
      exact k _ ((x5.trans ee).trans (.of (s7.trans S3))) (Te.ext (s7.trans S3))
end
end T74

set_option Elab.async false
set_option linter.all false
set_option maxRecDepth 100000
set_option maxHeartbeats 4000000
namespace T74
open PySem PySem.Spec PyProof.Rows L2 EK LamX
abbrev goodL : List V := [V.str "a", V.str "ab", V.str "bba", V.str "ba"]
def wordsAt (d : Int) (u : V) : List V := ((cutV goodL none (some d) ++ [u]) ++ cutV goodL (some d) none) ++ [V.non]
theorem good_mem : ∀ y ∈ goodL, goodW "ab" y := by
  intro y hy
  rcases List.mem_cons.mp hy with rfl | hy
  · exact ⟨_, rfl, by decide, by decide +kernel⟩
  rcases List.mem_cons.mp hy with rfl | hy
  · exact ⟨_, rfl, by decide, by decide +kernel⟩
  rcases List.mem_cons.mp hy with rfl | hy
  · exact ⟨_, rfl, by decide, by decide +kernel⟩
  rcases List.mem_cons.mp hy with rfl | hy
  · exact ⟨_, rfl, by decide, by decide +kernel⟩
  cases hy
theorem cut0 : cutV goodL none (some 0) = [] := by decide +kernel
theorem five {d : Int} (h0 : 0 ≤ d) (h5 : d < 5) : d = 0 ∨ d = 1 ∨ d = 2 ∨ d = 3 ∨ d = 4 := by omega
theorem cut_pre (d : Int) (xs : List V) : ∀ y ∈ cutV xs none (some d), y ∈ xs := fun y hy => by
  unfold cutV at hy
  exact List.mem_of_mem_drop (List.mem_of_mem_take hy)
theorem words_at (d : Int) (u : V) : (wordsAt d u)[(cutV goodL none (some d)).length]? = some u ∧ ∀ j, j < (cutV goodL none (some d)).length → ∀ y, (wordsAt d u)[j]? = some y → goodW "ab" y := by
  unfold wordsAt
  refine ⟨?_, fun j hj y hy => ?_⟩
  · rw [List.append_assoc, List.append_assoc, List.getElem?_append_right (Nat.le_refl _), Nat.sub_self]
    rfl
  · rw [List.append_assoc, List.append_assoc, List.getElem?_append_left hj] at hy
    exact good_mem y (cut_pre d _ y (List.mem_of_getElem? hy))
def rTupK (K : PySem.W.Frag) : List V → Hp → VK → Prop := fun xs H Q => ∃ p ys, xs = [.ref p] ∧ ((SqL K H p ys ∧ ∀ l, H l = none → Q (.ref l) (upd H l (.tup ys))) ∨ (SqT K H p ys ∧ Q (.ref p) H))
theorem call_tuple_ofK {X : Cx} {K : PySem.W.Frag} (h : X.K = K) : CallR X (.type "tuple") (rTupK K) := by
  subst h
  exact call_tuple_of
theorem pt_ab : partB "a" "ab" = true := by decide +kernel
section
variable {P : Program} {w : World} {K : PySem.W.Frag} {mg : Str → Option Value} {base : Heap} {E0 CT CN iT P1 P2 : Addr} {fQ : Addr} {dVQ kVQ docQ pmQ cdQ ctQ ocQ : Value} {anQ odQ : Option Addr} {oslQ : Array (Option Value)}
theorem ok_R2 {f cL : Addr} {dV kV doc pm ct oc : Value} {an od : Option Addr} {osl : Array (Option Value)} (lk : K.lookup f = some ⟨oc, od, .func (PySem.W.fnOf "_law_words_right" "_law_words_right" (defArgs sR2) (defBody sR2) (defScope sR2) dV kV doc pm an (.ref cL) ct), osl⟩) (hcd : PySem.W.codeIn K (.ref cL) "_law_words_right" = true) (TB : TabB base mg cL P2) (hP : P1 ≠ P2)
    (M : Kinds K mg E0 CT CN) (XT : ErrTxt P K mg "NoText" "text" CT iT) (TC : TxtC K mg) (SD : SaidAt K mg fQ dVQ kVQ docQ pmQ cdQ ctQ ocQ anQ odQ oslQ)
    {fTA fDR : Addr} {fdTA fdDR : FuncData}
    (GTA : FnOk P w K mg base (L2.CX P w) 6 fTA fdTA ["words", "letters"] (spTA CT)) (gTA : mg "text_of_absent" = some (.ref fTA)) (kTA : PySem.W.keepIn K (.ref fTA) = true) (bTA : Binds K fdTA ["words", "letters"] [])
    (GDR : FnOk P w K mg base CX0 1 fDR fdDR ["_law_well_here", "_law_many"] spDraw) (gDR : mg "_law_draw" = some (.ref fDR)) (kDR : PySem.W.keepIn K (.ref fDR) = true) (bDR : Binds K fdDR ["_law_well_here", "_law_many"] []) :
    FnOk P w K mg base CX0 9 f (PySem.W.fnOf "_law_words_right" "_law_words_right" (defArgs sR2) (defBody sR2) (defScope sR2) dV kV doc pm an (.ref cL) ct) ["_law_well_here", "_law_odd"] (spR2 P1 P2) := by
  refine fn_of lk hcd scR2 (fun vs H Q E h => ?_) (fun A outer s H vs Q E hr h => ?_)
  · obtain ⟨wl, x, n, rfl, _⟩ := h
    rfl
  · obtain ⟨wl, x, n, rfl, hw, hn, px, bx, hT, k⟩ := h
    have nd := scR2.nd
    have hu : (A.deeper (PyProof.Rows.envOfC "_law_words_right" (defScope sR2) s.heap.objs.size f (.ref cL))).units + 64 < cLine := hr.units
    have hrX : Room 8 _ := hr
    have hr1 : Room 1 _ := hrX.mono (by decide)
    have hr6 : Room 6 _ := hrX.mono (by decide)
    refine ⟨_, PSs.nox (pss_cons (ps_set (i := 2) nd rfl (Or.inl rfl) (pe_lst (pa_cons pe_str (pa_cons pe_str (pa_cons pe_str (pa_cons pe_str pa_nil))))))
      (pss_cons (ps_set (i := 3) nd rfl (Or.inl rfl) (pe_call GDR hr1 rfl gDR kDR bDR .nil pass0 (pa_cons (pv 0) (pa_cons pe_int pa_nil))))
      (pss_cons (ps_for PassesOwn.never rfl (pi_list (pe_lst (pa_cons (pv 1) (pa_cons pe_str (pa_cons pe_str (pa_cons pe_str (pa_cons pe_str pa_nil))))))) (pg_name (i := 4) nd rfl (Or.inl rfl)) (pss_cons (ps_set (i := 5) nd rfl (Or.inr rfl) (pe_op op_cat (pe_op op_cat (pe_op op_cat (pe_slice sl_list (pv 2) po_none (po_some (pv 3))) (pe_lst (pa_cons (pv 4) pa_nil))) (pe_slice sl_list (pv 2) (po_some (pv 3)) po_none)) (pe_lst (pa_cons pe_non pa_nil)))) (pss_cons (ps_if (pt_cmpR (op_neS hu) (pe_lamcall (T := T2 P1 P2) (TT := TSay CT) (k := 6) rfl SD.g SD.k SD.lk SD.c SD.b scSaid rfl (Or.inl rfl) (said_gives M XT) TB rfl (List.mem_cons_of_mem _ List.mem_cons_self) (only2 hP) hrX (lamS_by (sc := defScope sR2) (by decide +kernel)) rfl (fun _ _ _ _ _ => rfl) (fun A outer s H E f c' hr' => pe_call GTA hr' rfl gTA kTA bTA .nil (passes_call (takes_of rfl rfl rfl rfl) fun _ _ _ _ h => h) (pa_cons (pv 5) (pa_cons pe_str pa_nil)))) (pe_lst (pa_cons (pv 4) pa_nil)) (nomark _)) (pss_one (ps_ret pe_bl)) pss_nil) (pss_one (ps_if (pt_cmpR (op_neS hu) (pe_lamcall (T := T2 P1 P2) (TT := TSay CT) (k := 6) rfl SD.g SD.k SD.lk SD.c SD.b scSaid rfl (Or.inl rfl) (said_gives M XT) TB rfl (List.mem_cons_of_mem _ List.mem_cons_self) (only2 hP) hrX (lamS_by (sc := defScope sR2) (by decide +kernel)) rfl (fun _ _ _ _ _ => rfl) (fun A outer s H E f c' hr' => pe_call GTA hr' rfl gTA kTA bTA .nil (passes_call (takes_of rfl rfl rfl rfl) fun _ _ _ _ h => h) (pa_cons (pe_callTy (call_tuple_ofK (K := K) rfl) (by rfl) TC.tuple (by decide +kernel) (pa_cons (pv 5) pa_nil)) (pa_cons pe_str pa_nil)))) (pe_lst (pa_cons (pv 4) pa_nil)) (nomark _)) (pss_one (ps_ret pe_bl)) pss_nil)))))
      (pss_cons (ps_for PassesOwn.never rfl (pi_list (pe_lst (pa_cons pe_str (pa_cons (pe_disp (pps_cons pe_str pe_str pps_nil) (by rfl) (by rfl) (fun z => by cases z) (by decide)) (pa_cons pe_non (pa_cons pe_int pa_nil)))))) (pg_name (i := 5) nd rfl (Or.inr rfl)) (pss_one (ps_if (pt_cmpR (op_neS hu) (pe_lamcall (T := T2 P1 P2) (TT := TSay CT) (k := 6) rfl SD.g SD.k SD.lk SD.c SD.b scSaid rfl (Or.inl rfl) (said_gives M XT) TB rfl (List.mem_cons_of_mem _ List.mem_cons_self) (only2 hP) hrX (lamS_by (sc := defScope sR2) (by decide +kernel)) rfl (fun _ _ _ _ _ => rfl) (fun A outer s H E f c' hr' => pe_call GTA hr' rfl gTA kTA bTA .nil (passes_call (takes_of rfl rfl rfl rfl) fun _ _ _ _ h => h) (pa_cons (pv 5) (pa_cons pe_str pa_nil)))) (pe_lst (pa_cons (pv 5) pa_nil)) (nomark _)) (pss_one (ps_ret pe_bl)) pss_nil)))
      (pss_one (ps_ret (pe_cmpR op_isN (pe_call GTA hr6 rfl gTA kTA bTA .nil passL (pa_cons (pv 2) (pa_cons pe_str pa_nil))) pe_non (nomark _)))))))), ?_⟩
    refine ⟨(by show 4 ≤ sizeLine; decide), fun pg zg => ?_⟩
    obtain ⟨H1, e1, S1, A1⟩ := alloc (o := .lst goodL) zg
    have e1' : upd H pg (.lst [V.str "a", V.str "ab", V.str "bba", V.str "ba"]) = H1 := e1
    rw [e1']
    refine ⟨_, rfl, wl, 5, n, rfl, hw.keepN (.of S1), hn, by decide, by decide, fun d H2 h0 h5 hw2 kb2 => ?_⟩
    have nw : pg ≠ wl := by
      obtain ⟨_, _, _, ew, _⟩ := hw
      exact fun z => by rw [z, ew] at zg; cases zg
    have A2 : H2 pg = some (.lst goodL) := kb2 _ _ A1 nw
    have px2 : Pl H2 x := (px.keep S1).keepW (hw.keepN (.of S1)) hw2 kb2
    have TT2 : Tabs (T2 P1 P2) H2 := (hT.ext S1).keepW (hw.keepN (.of S1)) kb2
    refine ⟨_, rfl, (by show 5 ≤ sizeLine; decide), fun l zl => ?_⟩
    obtain ⟨HL, eL, SL, AL⟩ := alloc (o := .lst [x, V.str "", .str "abc", .str "A", .str "a$"]) zl
    rw [eL]
    have good : ∀ u ∈ ([x, V.str "", .str "abc", .str "A", .str "a$"] : List V), Pl H2 u ∧ badW "ab" u := by
      intro u hu
      rcases List.mem_cons.mp hu with rfl | hu
      · exact ⟨px2, bad_WO bx⟩
      rcases List.mem_cons.mp hu with rfl | hu
      · exact ⟨.str _, bad_z _ (by decide) (by decide +kernel)⟩
      rcases List.mem_cons.mp hu with rfl | hu
      · exact ⟨.str _, bad_z _ (by decide) (by decide +kernel)⟩
      rcases List.mem_cons.mp hu with rfl | hu
      · exact ⟨.str _, bad_z _ (by decide) (by decide +kernel)⟩
      rcases List.mem_cons.mp hu with rfl | hu
      · exact ⟨.str _, bad_z _ (by decide) (by decide +kernel)⟩
      cases hu
    refine ⟨l, rfl, ⟨_, .of AL⟩, for_list (K := K) (a := l) (xs := [x, V.str "", .str "abc", .str "A", .str "a$"]) (fun i σ H' => ∃ v4 v5 : Option V, σ = [some (.ref wl), some x, some (.ref pg), some (.int d), v4, v5] ∧ ExtN HL H' ∧ Tabs (T2 P1 P2) H') ⟨_, _, rfl, .refl _, TT2.ext SL⟩ (fun i σ H' _ ⟨_, _, _, s, _⟩ => .of (s _ _ AL fun _ z => by cases z)) ?_ ?_⟩
    · rintro i u σ Hw hi ⟨v4, v5, rfl, sw, Tw⟩
      obtain ⟨pu, bu⟩ := good u (List.mem_of_getElem? hi)
      have xw : ExtN H2 Hw := (ExtN.of SL).trans sw
      have Ag := xw _ _ A2 fun _ z => by cases z
      have lc1 : (cutV goodL none (some d)).length ≤ 4 := cutV_length goodL none (some d)
      have lc2 : (cutV goodL (some d) none).length ≤ 4 := cutV_length goodL (some d) none
      have big : ∀ n, n ≤ 100 → n ≤ sizeLine := fun n h => Nat.le_trans h (by decide)
      refine ⟨_, rfl, _, rfl, d, rfl, pg, _, rfl, .of Ag, fun p0 z0 => ?_⟩
      obtain ⟨K0, k0, V0, B0⟩ := alloc (o := .lst (cutV goodL none (some d))) z0
      rw [k0]
      refine ⟨_, rfl, (by show 1 ≤ sizeLine; decide), fun p1 z1 => ?_⟩
      obtain ⟨K1, k1, V1, B1⟩ := alloc (o := .lst [u]) z1
      rw [k1]
      refine ⟨p0, p1, _, _, rfl, rfl, V1 _ _ B0, B1, big _ (by simp only [List.length_singleton]; omega), fun p2 z2 => ?_⟩
      obtain ⟨K2, k2, V2, B2⟩ := alloc (o := .lst (cutV goodL none (some d) ++ [u])) z2
      rw [k2]
      have V02 : Same Hw K2 := (V0.trans V1).trans V2
      refine ⟨_, rfl, _, rfl, d, rfl, pg, _, rfl, .of (V02 _ _ Ag), fun p3 z3 => ?_⟩
      obtain ⟨K3, k3, V3, B3⟩ := alloc (o := .lst (cutV goodL (some d) none)) z3
      rw [k3]
      refine ⟨p2, p3, _, _, rfl, rfl, V3 _ _ B2, B3, big _ (by rw [List.length_append, List.length_singleton]; omega), fun p4 z4 => ?_⟩
      obtain ⟨K4, k4, V4, B4⟩ := alloc (o := .lst ((cutV goodL none (some d) ++ [u]) ++ cutV goodL (some d) none)) z4
      rw [k4]
      refine ⟨(by show 1 ≤ sizeLine; decide), fun p5 z5 => ?_⟩
      obtain ⟨K5, k5, V5, B5⟩ := alloc (o := .lst [.non]) z5
      rw [k5]
      refine ⟨p4, p5, _, _, rfl, rfl, V5 _ _ B4, B5, big _ (by rw [List.length_append, List.length_append, List.length_singleton, List.length_singleton]; omega), fun pw z6 => ?_⟩
      obtain ⟨K6, k6, V6, B6⟩ := alloc (o := .lst (wordsAt d u)) z6
      have k6' : upd K5 pw (.lst (((cutV goodL none (some d) ++ [u]) ++ cutV goodL (some d) none) ++ [.non])) = K6 := k6
      rw [k6']
      have V06 : Same Hw K6 := (((V02.trans V3).trans V4).trans V5).trans V6
      obtain ⟨wi, wp⟩ := words_at d u
      have x6 : ExtN H2 K6 := xw.trans (.of V06)
      refine ⟨Tw.ext V06, fun Hj eN Tj => ?_⟩
      have Bj : Hj pw = some (.lst (wordsAt d u)) := eN _ _ B6 fun _ z => by cases z
      refine ⟨_, rfl, .ref pw, .str "ab", rfl, .str _, .inr ⟨"ab", rfl, ⟨_, rfl, by decide, by decide +kernel, srt_ab, by decide +kernel⟩, .inl fun Hk sk => .inr ⟨pw, _, rfl, .inl (sk _ _ Bj), _, u, wi, (pu.keepN (x6.trans eN)).keep sk, bu, wp, no_text fun Hn p2 sp ap => ?_⟩⟩⟩
      refine ⟨_, rfl, (by show 1 ≤ sizeLine; decide), fun p3 hp3 => ?_⟩
      obtain ⟨H3, e3, S3, A3⟩ := alloc (o := .lst [u]) hp3
      rw [e3]
      refine ⟨.ls (.of (S3 _ _ ap)) (.of A3) rfl (same_one pu.nf), _, rfl, ?_⟩
      have Sj3 : Same Hj H3 := (sk.trans sp).trans S3
      have B3' := Sj3 _ _ Bj
      have Tj3 := Tj.ext Sj3
      have x7 : ExtN H2 H3 := (x6.trans eN).trans (.of Sj3)
      have y7 : ExtN HL H3 := ((sw.trans (.of V06)).trans eN).trans (.of Sj3)
      clear ap S3
      refine ⟨Tj3, fun Hl eL Tl => ?_⟩
      have Bl : Hl pw = some (.lst (wordsAt d u)) := eL _ _ B3' fun _ z => by cases z
      refine ⟨_, rfl, pw, _, rfl, .inl ⟨.of Bl, fun tp zt => ?_⟩⟩
      obtain ⟨Ht, et, St, At⟩ := alloc (o := .tup (wordsAt d u)) zt
      rw [et]
      refine ⟨.ref tp, .str "ab", rfl, .str _, .inr ⟨"ab", rfl, ⟨_, rfl, by decide, by decide +kernel, srt_ab, by decide +kernel⟩, .inl fun Hk sk => .inr ⟨tp, _, rfl, .inr (sk _ _ At), _, u, wi, ((pu.keepN (x7.trans eL)).keep St).keep sk, bu, wp, no_text fun Hn p2 sp ap => ?_⟩⟩⟩
      refine ⟨_, rfl, (by show 1 ≤ sizeLine; decide), fun p3 hp3 => ?_⟩
      obtain ⟨H3, e3, S3, A3⟩ := alloc (o := .lst [u]) hp3
      rw [e3]
      refine ⟨.ls (.of (S3 _ _ ap)) (.of A3) rfl (same_one pu.nf), _, rfl, ?_⟩
      have Sl3 : Same Hl H3 := ((St.trans sk).trans sp).trans S3
      exact ⟨_, _, rfl, (y7.trans eL).trans (.of Sl3), Tl.ext Sl3⟩
    · rintro σ Hw ⟨v4, v5, rfl, sw, Tw⟩
      have xw : ExtN H2 Hw := (ExtN.of SL).trans sw
      intro q1 y1
      refine ⟨upd_same, [(.inr "a", .str "b")], rfl, by decide, ?_⟩
      obtain ⟨D1, d1, W1, C1⟩ := alloc_d (kvs := mergeK [] [(.inr "a", .str "b")]) y1
      rw [d1]
      replace C1 : D1 q1 = some (.dK [(.inr "a", .str "b")]) := C1
      refine ⟨(by show 4 ≤ sizeLine; decide), fun l2 zl2 => ?_⟩
      obtain ⟨HM, eM, SM, AM⟩ := alloc (o := .lst [V.str "ab", .ref q1, .non, .int 5]) zl2
      rw [eM]
      have other : ∀ u ∈ ([V.str "ab", .ref q1, .non, .int 5] : List V), ∀ Hk : Hp, Hk q1 = some (.dK [(.inr "a", .str "b")]) → Pl Hk u ∧ noLT Hk u := by
        intro u hu Hk hk
        rcases List.mem_cons.mp hu with rfl | hu
        · exact ⟨.str _, fun a z => by cases z⟩
        rcases List.mem_cons.mp hu with rfl | hu
        · refine ⟨.dct hk, fun a z xs => ?_⟩
          injection z with z
          subst z
          rw [hk]
          exact ⟨fun z => (by cases z), fun z => (by cases z)⟩
        rcases List.mem_cons.mp hu with rfl | hu
        · exact ⟨.non, fun a z => by cases z⟩
        rcases List.mem_cons.mp hu with rfl | hu
        · exact ⟨.int _, fun a z => by cases z⟩
        cases hu
      have CM := SM _ _ C1
      have xM : ExtN H2 HM := xw.trans (.of (W1.trans SM))
      refine ⟨l2, rfl, ⟨_, .of AM⟩, for_list (K := K) (a := l2) (xs := [V.str "ab", .ref q1, .non, .int 5]) (fun i σ H' => ∃ v4 v5 : Option V, σ = [some (.ref wl), some x, some (.ref pg), some (.int d), v4, v5] ∧ ExtN HM H' ∧ Tabs (T2 P1 P2) H') ⟨_, _, rfl, .refl _, Tw.ext (W1.trans SM)⟩ (fun i σ H' _ ⟨_, _, _, s, _⟩ => .of (s _ _ AM fun _ z => by cases z)) ?_ ?_⟩
      · rintro i u σ Hv hi ⟨v4, v5, rfl, sv, Tv⟩
        have hu := other u (List.mem_of_getElem? hi)
        refine ⟨Tv, fun Hj eN Tj => ?_⟩
        have Cj := (sv.trans eN) _ _ CM fun _ z => by cases z
        refine ⟨_, rfl, u, .str "ab", rfl, .str _, .inr ⟨"ab", rfl, ⟨_, rfl, by decide, by decide +kernel, srt_ab, by decide +kernel⟩, .inl fun Hk sk => .inl ⟨(hu Hk (sk _ _ Cj)).1, (hu Hk (sk _ _ Cj)).2, no_text fun Hn p2 sp ap => ?_⟩⟩⟩
        refine ⟨_, rfl, (by show 1 ≤ sizeLine; decide), fun p3 hp3 => ?_⟩
        obtain ⟨H3, e3, S3, A3⟩ := alloc (o := .lst [u]) hp3
        rw [e3]
        refine ⟨.ls (.of (S3 _ _ ap)) (.of A3) rfl (same_one (hu Hk (sk _ _ Cj)).1.nf), _, rfl, ?_⟩
        have Sj3 : Same Hj H3 := (sk.trans sp).trans S3
        exact ⟨_, _, rfl, (sv.trans eN).trans (.of Sj3), Tj.ext Sj3⟩
      · rintro σ Hv ⟨v4, v5, rfl, sv, Tv⟩
        have Av : Hv pg = some (.lst goodL) := (xM.trans sv) _ _ A2 fun _ z => by cases z
        refine ⟨_, rfl, .ref pg, .str "ab", rfl, .str _, .inr ⟨"ab", rfl, ⟨_, rfl, by decide, by decide +kernel, srt_ab, by decide +kernel⟩, .inr ⟨pg, ["a", "ab", "bba", "ba"], rfl, Av, fun z hz => good_mem _ (List.mem_map.mpr ⟨z, hz, rfl⟩), by decide, ⟨"a", "ab", List.mem_cons_self, List.mem_cons_of_mem _ List.mem_cons_self, by decide, pt_ab⟩, fun He se => ?_⟩⟩⟩
        refine ⟨rfl, ?_⟩
        rw [decide_eq_true rfl]
        exact k He (fun b o e nb nt => se _ _ ((xM.trans sv) _ _ (kb2 _ _ (S1 _ _ e) nb) nt)) (Tv.ext se)
end
end T74

set_option Elab.async false
set_option linter.all false
set_option maxRecDepth 100000
set_option maxHeartbeats 4000000
namespace T74
open PySem L2 EK LamX
theorem cut_ints (ns : List Int) (lo hi : Option Int) : ∃ ms : List Int, cutV (ns.map V.int) lo hi = ms.map V.int ∧ ms.length ≤ ns.length := by
  have h := cutV_length (ns.map V.int) lo hi
  have e : ∃ ms : List Int, cutV (ns.map V.int) lo hi = ms.map V.int := by
    unfold cutV
    rw [← List.map_drop, ← List.map_take]
    exact ⟨_, rfl⟩
  obtain ⟨ms, e⟩ := e
  rw [e, List.length_map, List.length_map] at h
  exact ⟨ms, e, h⟩
theorem ints_at {ns : List Int} {i : Nat} {x : V} (h : (ns.map V.int)[i]? = some x) : ∃ n, ns[i]? = some n ∧ x = .int n := by
  rw [List.getElem?_map] at h
  obtain ⟨n, hn, e⟩ := Option.map_eq_some_iff.mp h
  exact ⟨n, hn, e.symm⟩
section
variable {P : Program} {w : World} {K : PySem.W.Frag} {mg : Str → Option Value} {base : Heap} {P1 P2 : Addr}
theorem ok_law {f fW fO fR1 fR2 : Addr} {fd fdW fdO fdR1 fdR2 : FuncData} (F : Fun K "law" "law" sLaw f fd)
    (GW : FnOk P w K mg base CX0 1 fW fdW ["_law_cell"] spWell) (gW : mg "_law_well" = some (.ref fW)) (kW : PySem.W.keepIn K (.ref fW) = true) (bW : Binds K fdW ["_law_cell"] [])
    (GO : FnOk P w K mg base CX0 2 fO fdO ["_law_well_here", "_law_some"] spOne) (gO : mg "_law_one" = some (.ref fO)) (kO : PySem.W.keepIn K (.ref fO) = true) (bO : Binds K fdO ["_law_well_here", "_law_some"] [])
    (GR1 : FnOk P w K mg base CX0 9 fR1 fdR1 ["_law_odd"] (spR1 P1 P2)) (gR1 : mg "_law_letters_right" = some (.ref fR1)) (kR1 : PySem.W.keepIn K (.ref fR1) = true) (bR1 : Binds K fdR1 ["_law_odd"] [])
    (GR2 : FnOk P w K mg base CX0 9 fR2 fdR2 ["_law_well_here", "_law_odd"] (spR2 P1 P2)) (gR2 : mg "_law_words_right" = some (.ref fR2)) (kR2 : PySem.W.keepIn K (.ref fR2) = true) (bR2 : Binds K fdR2 ["_law_well_here", "_law_odd"] []) :
    FnOk P w K mg base CX0 10 f fd ["_law_script"] (spLaw K P1 P2) := by
  refine F.ok scLaw (fun vs H Q E h => ?_) (fun cdv A outer s H vs Q E hr h => ?_)
  · obtain ⟨a, ns, rfl, _⟩ := h
    rfl
  · obtain ⟨a, ns, rfl, hS, hlen, hP1, hP2, k⟩ := h
    have nd := scLaw.nd
    have hrW : Room 1 _ := hr.mono (by decide)
    have hrO : Room 2 _ := hr.mono (by decide)
    have hrR1 : Room 9 _ := hr
    have hrR2 : Room 9 _ := hr
    refine ⟨_, (pss_cons (ps_for PassesOwn.never rfl (pi_list (pe_op op_cat (pe_slice sl_list (pv 0) po_none (po_some pe_int)) (pe_lst (pa_cons pe_int pa_nil)))) (pg_name (i := 1) nd rfl (Or.inl rfl)) (pss_cons (ps_set (i := 2) nd rfl (Or.inl rfl) (pe_call GW hrW rfl gW kW bW .nil pass0 (pa_cons (pv 1) pa_nil)))
      (pss_cons (ps_set (i := 3) nd rfl (Or.inl rfl) (pe_call GO hrO rfl gO kO bO .nil pass0 (pa_cons (pv 2) (pa_cons (pe_lst (pa_cons pe_non (pa_cons pe_int (pa_cons pe_bl (pa_cons (pe_lst (pa_cons pe_str pa_nil)) (pa_cons (pe_tup (pa_cons pe_str pa_nil)) (pa_cons pe_dnewK (pa_cons pe_str (pa_cons pe_str (pa_cons pe_str (pa_cons (pe_tup pa_nil) (pa_cons (pe_op op_pow pe_int pe_int) pa_nil)))))))))))) pa_nil))))
      (pss_one (ps_if (PW.pt (pw_or (pt_not (pt_val (pe_call GR1 hrR1 rfl gR1 kR1 bR1 .nil pass0 (pa_cons (pv 3) pa_nil)))) (pw_or1 (pt_not (pt_val (pe_call GR2 hrR2 rfl gR2 kR2 bR2 .nil pass0 (pa_cons (pv 2) (pa_cons (pv 3) pa_nil)))))))) (pss_one (ps_ret pe_bl)) pss_nil)))))
      (pss_one (ps_ret pe_bl))), ?_⟩
    obtain ⟨ms, hms, hml⟩ := cut_ints ns none (some 4)
    refine ⟨_, rfl, _, rfl, a, _, rfl, hS, fun p0 z0 => ?_⟩
    rw [hms]
    obtain ⟨H1, e1, S1, A1⟩ := alloc (o := .lst (ms.map V.int)) z0
    rw [e1]
    refine ⟨(by show 1 ≤ sizeLine; decide), fun p1 z1 => ?_⟩
    obtain ⟨H2, e2, S2, A2⟩ := alloc (o := .lst [.int 0]) z1
    rw [e2]
    refine ⟨p0, p1, _, _, rfl, rfl, S2 _ _ A1, A2, ?_, fun p2 z2 => ?_⟩
    · rw [List.length_map]
      exact Nat.le_trans (Nat.add_le_add_right (Nat.le_trans hml hlen) 1) (by show 64 ≤ sizeLine; decide)
    have em : ms.map V.int ++ [V.int 0] = (ms ++ [0]).map V.int := by rw [List.map_append]; rfl
    rw [em]
    obtain ⟨H3, e3, S3, A3⟩ := alloc (o := .lst ((ms ++ [0]).map V.int)) z2
    rw [e3]
    have S03 : Same H H3 := (S1.trans S2).trans S3
    have hT3 : Tabs (T2 P1 P2) H3 := fun p hp => by
      rcases List.mem_cons.mp hp with rfl | hp
      · exact TabS.nil (S03 _ _ hP1)
      · rw [List.mem_singleton.mp hp]
        exact TabS.nil (S03 _ _ hP2)
    refine ⟨p2, rfl, ⟨_, .of A3⟩, for_list (K := K) (a := p2) (xs := (ms ++ [0]).map V.int) (fun i σ H' => ∃ v1 v2 v3 : Option V, σ = [some (.ref a), v1, v2, v3] ∧ ExtN H3 H' ∧ Tabs (T2 P1 P2) H') ⟨none, none, none, rfl, .refl _, hT3⟩ (fun i σ H' _ ⟨_, _, _, _, s, _⟩ => .of (s _ _ A3 fun _ z => by cases z)) ?_ ?_⟩
    · rintro i y σ H4 hi ⟨v1, v2, v3, rfl, s4, T4⟩
      obtain ⟨z, _, rfl⟩ := ints_at hi
      refine ⟨_, rfl, z, rfl, fun wl H5 nwl hw s5 => ?_⟩
      refine ⟨_, rfl, (by show 1 ≤ sizeLine; decide), fun q1 y1 => ?_⟩
      obtain ⟨G1, g1, U1, B1⟩ := alloc (o := .lst [.str "a"]) y1
      rw [g1]
      refine ⟨(by show 1 ≤ sizeLine; decide), fun q2 y2 => ?_⟩
      obtain ⟨G2, g2, U2, B2⟩ := alloc (o := .tup [.str "a"]) y2
      rw [g2]
      intro q3 y3
      obtain ⟨G3, g3, U3, B3⟩ := alloc (o := .dK []) y3
      rw [g3]
      refine ⟨(by show 0 ≤ sizeLine; decide), fun q4 y4 => ?_⟩
      obtain ⟨G4, g4, U4, B4⟩ := alloc (o := .tup []) y4
      rw [g4]
      refine ⟨_, _, rfl, rfl, ⟨by decide, by decide, by decide⟩, (by show 11 ≤ sizeLine; decide), fun q5 y5 => ?_⟩
      obtain ⟨G5, g5, U5, B5⟩ := alloc (o := .lst [V.non, .int 7, .bl true, .ref q1, .ref q2, .ref q3, .str "Ab", .str "a1", .str "$", .ref q4, .int (10 ^ (40 : Int).toNat)]) y5
      have g5' : upd G4 q5 (.lst [V.non, .int 7, .bl true, .ref q1, .ref q2, .ref q3, .str "Ab", .str "a1", .str "$", .ref q4, .int (10 ^ (40 : Int).toNat)]) = G5 := g5
      simp only [g5']
      have things : ∀ x ∈ [V.non, .int 7, .bl true, .ref q1, .ref q2, .ref q3, .str "Ab", .str "a1", .str "$", .ref q4, .int (10 ^ (40 : Int).toNat)], Pl G5 x ∧ badT isT x := by
        intro x hx
        rcases List.mem_cons.mp hx with rfl | hx
        · exact ⟨.non, .inl rfl⟩
        rcases List.mem_cons.mp hx with rfl | hx
        · exact ⟨.int _, .inl rfl⟩
        rcases List.mem_cons.mp hx with rfl | hx
        · exact ⟨.bl _, .inl rfl⟩
        rcases List.mem_cons.mp hx with rfl | hx
        · exact ⟨.lst ((((U2.trans U3).trans U4).trans U5) _ _ B1), .inl rfl⟩
        rcases List.mem_cons.mp hx with rfl | hx
        · exact ⟨.tup (((U3.trans U4).trans U5) _ _ B2), .inl rfl⟩
        rcases List.mem_cons.mp hx with rfl | hx
        · exact ⟨.dct ((U4.trans U5) _ _ B3), .inl rfl⟩
        rcases List.mem_cons.mp hx with rfl | hx
        · exact ⟨.str _, .inr ⟨_, rfl, by decide, by decide +kernel⟩⟩
        rcases List.mem_cons.mp hx with rfl | hx
        · exact ⟨.str _, .inr ⟨_, rfl, by decide, by decide +kernel⟩⟩
        rcases List.mem_cons.mp hx with rfl | hx
        · exact ⟨.str _, .inr ⟨_, rfl, by decide, by decide +kernel⟩⟩
        rcases List.mem_cons.mp hx with rfl | hx
        · exact ⟨.tup (U5 _ _ B4), .inl rfl⟩
        rcases List.mem_cons.mp hx with rfl | hx
        · exact ⟨.int _, .inl rfl⟩
        cases hx
      obtain ⟨ths, eth, lth⟩ : ∃ l, l = [V.non, .int 7, .bl true, .ref q1, .ref q2, .ref q3, .str "Ab", .str "a1", .str "$", .ref q4, .int (10 ^ (40 : Int).toNat)] ∧ l.length = 11 := ⟨_, rfl, rfl⟩
      rw [← eth] at things B5
      have S0 : Same H5 G5 := ((((U1.trans U2).trans U3).trans U4).trans U5)
      have hwG := hw.keepN (ExtN.of S0)
      have n1 : q5 ≠ wl := fun e => by
        obtain ⟨_, _, _, e2, _⟩ := hw
        have e3 := (((U1.trans U2).trans U3).trans U4) _ _ e2
        rw [← e, y5] at e3
        cases e3
      refine ⟨wl, q5, 0, ths, rfl, hwG, by decide, B5, n1, by omega, by omega, fun x H6 hx hw6 kb6 => ?_⟩
      obtain ⟨px, bx⟩ := things x hx
      have px6 := px.keepW hwG hw6 kb6
      have T6 : Tabs (T2 P1 P2) H6 := ((T4.ext s5).ext S0).keepW hwG kb6
      have old : ∀ b o, H3 b = some o → (∀ ps, o ≠ .tbl ps) → b ≠ wl := fun b o e nt => ne_of_none (s4 _ _ e nt) nwl
      have s6 : ExtN H3 H6 := fun b o e nt => kb6 _ _ (S0 _ _ (s5 _ _ (s4 _ _ e nt))) (old b o e nt)
      refine ⟨_, rfl, x, rfl, px6, bx, T6, fun Ha ea Ta => ?_⟩
      refine ⟨true, rfl, ?_⟩
      refine ⟨_, rfl, _, rfl, wl, x, 0 + 1, rfl, hw6.keepN ea, by decide, px6.keepN ea, bx, Ta, fun Hb eb Tb => ?_⟩
      exact ⟨true, rfl, _, _, _, rfl, fun b o e nt => eb _ _ (ea _ _ (s6 _ _ e nt) nt) (old b o e nt) nt, Tb⟩
    · rintro σ H9 ⟨v1, v2, v3, rfl, s4, T4⟩
      exact k H9
end
end T74

set_option Elab.async false
set_option linter.all false
set_option maxRecDepth 100000
set_option maxHeartbeats 4000000
/-! ErrEnd: an error class's facts, from what the top has written. -/
namespace EK
open PySem PySem.W L2
def errB (K : Frag) (C fI : Addr) (f : Str) : Bool :=
  xfB K C && (decide (findIn K (.ref C) "__setattr__" = some (some (.builtin "object.__setattr__"))) && (decide (findIn K (.ref C) f = some none) && (decide (typeIn K (.ref fI) = some (.type "function")) && (keepIn K (.ref C) &&
  (decide (typeIn K (.ref C) = some (.type "type")) && (decide (exmOne K (.ref C) (.ref C) = some true) && (decide (subIn K (.ref C) (.type "ValueError") = some true) && (decide (ks_superIn K C C "__init__" = some (some (.builtin "ValueError.__init__"))) &&
  (decide (mroIn K C (.ref C) = some true) && (decide (findIn K (.ref C) "__class__" = some (some (.builtin "object.__class__"))) && decide (mroIn K C (.type "object") = some true)))))))))))
theorem and2 {a b : Bool} (h : (a && b) = true) : a = true ∧ b = true := Bool.and_eq_true_iff.mp h
theorem err_mk {P : Program} {K : Frag} {h : Heap} {mg : Str → Option Value} {x f : Str} {C fI N cda cc : Addr} (X : K.In h) (G : h.Ns mainGlobals mg)
    {nm q qn msg file : Str} {bs bm : List Value} {sn : List Str} {sub : List Value} {ab : Bool} {col : Option Bool} {dd od an cdd cld : Option Addr} {m0 m1 m2 m3 m5 : Option Value} {oc doc pm ct ccl cl : Value} {osl ccs csl : Array (Option Value)} {vs : Array Value} {tf : Tok}
    {p1 p2 a1 a2 a3 a4 a5 a6 b1 b2 b3 b4 : Pos}
    (aC : nsIn K mainGlobals x = some (some (.ref C))) (xL : K.lookup C = some (excClassObj nm q C N bs bm true sn sub ab col dd m0 m1 m2 m3 m5 "ValueError.__new__")) (rv : HandSPX.refsVE bm = true)
    (iC : findIn K (.ref C) "__init__" = some (some (.ref fI)))
    (l1 : K.lookup fI = some ⟨oc, od, .func (ksFn "__init__" qn (eArgs f p1 p2) (eBody f msg a1 a2 a3 a4 a5 a6 b1 b2 b3 b4) (eScope f) .none .none doc pm an (.ref cda) ct cc), osl⟩) (c1 : codeIn K (.ref cda) qn = true)
    (bd : ∀ u v : Value, bindArgs (ksFn "__init__" qn (eArgs f p1 p2) (eBody f msg a1 a2 a3 a4 a5 a6 b1 b2 b3 b4) (eScope f) .none .none doc pm an (.ref cda) ct cc) ⟨[u, v], []⟩ = pure [(("self" : Str), u), (f, v)])
    (sc : ∀ L : Addr, SupCall a1 a2 a3 a4 a5 msg (callEnv (ksFn "__init__" qn (eArgs f p1 p2) (eBody f msg a1 a2 a3 a4 a5 a6 b1 b2 b3 b4) (eScope f) .none .none doc pm an (.ref cda) ct cc) L fI))
    (cd : K.lookup cda = some ⟨ccl, cdd, .fields vs, ccs⟩) (vf : vs[2]? = some (.str file tf)) (pf : ((P.main.file : Str) == file) = true) (cL : K.lookup cc = some ⟨cl, cld, .cell (some (.ref C)), csl⟩)
    (eB : errB K C fI f = true) (ho : nsIn K cStatics "thirdparty.any" = some none) (su : nsIn K mainGlobals "super" = some none) (fok : f ≠ "self" ∧ f ≠ "__class__" ∧ f ≠ "super" ∧ f ≠ "__debug__") (top : (P.main.scope.names.lookup ("super" : Str)).isSome = false) :
    ErrTxt P K mg x f C fI := by
  obtain ⟨h1, eB⟩ := and2 eB
  obtain ⟨h2, eB⟩ := and2 eB
  obtain ⟨h3, eB⟩ := and2 eB
  obtain ⟨h4, eB⟩ := and2 eB
  obtain ⟨h5, eB⟩ := and2 eB
  obtain ⟨h6, eB⟩ := and2 eB
  obtain ⟨h7, eB⟩ := and2 eB
  obtain ⟨h8, eB⟩ := and2 eB
  obtain ⟨h9, eB⟩ := and2 eB
  obtain ⟨h10, eB⟩ := and2 eB
  have T := xfB_ok h1
  exact { gC := mg_of X G aC, cls := ⟨nm, q, N, bs, bm, sn, sub, ab, col, dd, m0, m1, m2, m3, m5, xL, rv⟩, sa := of_decide_eq_true h2, ga := T.ga, gg := T.gg, noN := of_decide_eq_true h3, iC := iC, tC := of_decide_eq_true h4, kC := h5, exC := T.exC,
          tyC := of_decide_eq_true h6, hdC := T.hdC, te := of_decide_eq_true h7, hB := of_decide_eq_true h8, si := of_decide_eq_true h9, ho := ho, su := mg_none_of X G su, mC := of_decide_eq_true h10, fok := fok, top := top,
          fn := ⟨oc, od, qn, msg, doc, pm, an, cda, cc, ct, osl, p1, p2, a1, a2, a3, a4, a5, a6, b1, b2, b3, b4, l1, c1, bd, sc, ⟨ccl, cdd, ccs, vs, file, tf, cd, vf, pf⟩, ⟨cl, cld, csl, cL⟩⟩ }
theorem excC_of {K : Frag} {C fI : Addr} {f : Str} (eB : errB K C fI f = true) (hn : specialIn K (.builtin "object.__class__") "__get__" = some (some (.builtin "getset_descriptor.__get__"))) (ht : takesIn K (.builtin "object.__class__") = some true) : ExcC K C := by
  obtain ⟨h1, eB⟩ := and2 eB
  obtain ⟨h2, eB⟩ := and2 eB
  obtain ⟨h3, eB⟩ := and2 eB
  obtain ⟨h4, eB⟩ := and2 eB
  obtain ⟨h5, eB⟩ := and2 eB
  obtain ⟨h6, eB⟩ := and2 eB
  obtain ⟨h7, eB⟩ := and2 eB
  obtain ⟨h8, eB⟩ := and2 eB
  obtain ⟨h9, eB⟩ := and2 eB
  obtain ⟨h10, eB⟩ := and2 eB
  obtain ⟨h11, h12⟩ := and2 eB
  have T := xfB_ok h1
  exact ⟨T.ga, T.gg, T.exC, T.hdC, of_decide_eq_true h11, hn, ht, of_decide_eq_true h12⟩
/-- which class is which, told apart -/
def kindsB (K : Frag) (E : Addr) (Cs : List Addr) : Bool :=
  (Cs.zipIdx.all fun p => Cs.zipIdx.all fun q => decide (kitOne K (.ref p.1) (.ref q.1) = some (decide (p.2 = q.2)))) && (Cs.all fun C => decide (kitOne K (.ref C) (.ref E) = some true) && decide (kitOne K (.ref C) (.type "ValueError") = some true))
theorem kinds_kt {K : Frag} {E : Addr} {Cs : List Addr} (h : kindsB K E Cs = true) (i j : Nat) (C D : Addr) (h1 : Cs[i]? = some C) (h2 : Cs[j]? = some D) : kitOne K (.ref C) (.ref D) = some (decide (i = j)) := by
  obtain ⟨h, _⟩ := and2 h
  have q := List.all_eq_true.mp h (C, i) (List.mk_mem_zipIdx_iff_getElem?.mpr h1)
  have q := List.all_eq_true.mp q (D, j) (List.mk_mem_zipIdx_iff_getElem?.mpr h2)
  exact of_decide_eq_true q
theorem kinds_ke {K : Frag} {E : Addr} {Cs : List Addr} (h : kindsB K E Cs = true) (C : Addr) (hC : C ∈ Cs) : kitOne K (.ref C) (.ref E) = some true ∧ kitOne K (.ref C) (.type "ValueError") = some true := by
  obtain ⟨_, h⟩ := and2 h
  obtain ⟨a, b⟩ := and2 (List.all_eq_true.mp h C hC)
  exact ⟨of_decide_eq_true a, of_decide_eq_true b⟩
end EK

set_option Elab.async false
set_option linter.all false
set_option maxRecDepth 100000
set_option maxHeartbeats 4000000
namespace T74
open PySem L2 EK LamX
theorem all_mk {l : PySem.W.OpenLaw} {w : World} {K : PySem.W.Frag} {h : Heap} {mg : Str → Option Value} {fa C1 i1 C2 i2 E0 : Addr} {t1 : Tok} (X : K.In h) (G : h.Ns mainGlobals mg) (hfa : mg "law" = some (.ref fa))
    {fX : Addr} {odX anX : Option Addr} {slX : Array (Option Value)} {ocX kVX dcX pmX cdX ctX : Value}
    {fWd : Addr} {odWd anWd : Option Addr} {slWd : Array (Option Value)} {ocWd kVWd dcWd pmWd cdWd ctWd : Value}
    {fLs : Addr} {odLs anLs : Option Addr} {slLs : Array (Option Value)} {ocLs kVLs dcLs pmLs cdLs ctLs : Value}
    {fSL : Addr} {odSL anSL : Option Addr} {slSL : Array (Option Value)} {ocSL kVSL dcSL pmSL cdSL ctSL : Value}
    {fOv : Addr} {odOv anOv : Option Addr} {slOv : Array (Option Value)} {ocOv kVOv dcOv pmOv cdOv ctOv : Value}
    {fCT : Addr} {odCT anCT : Option Addr} {slCT : Array (Option Value)} {ocCT kVCT dcCT pmCT cdCT ctCT : Value}
    {fCS : Addr} {odCS anCS : Option Addr} {slCS : Array (Option Value)} {ocCS kVCS dcCS pmCS cdCS ctCS : Value}
    {fCW : Addr} {odCW anCW : Option Addr} {slCW : Array (Option Value)} {ocCW kVCW dcCW pmCW cdCW ctCW : Value}
    {fLA : Addr} {odLA anLA : Option Addr} {slLA : Array (Option Value)} {ocLA kVLA dcLA pmLA cdLA ctLA : Value}
    {fTA : Addr} {odTA anTA : Option Addr} {slTA : Array (Option Value)} {ocTA kVTA dcTA pmTA cdTA ctTA : Value}
    {fCA : Addr} {odCA anCA : Option Addr} {slCA : Array (Option Value)} {ocCA kVCA dcCA pmCA cdCA ctCA : Value}
    {fLE : Addr} {odLE anLE : Option Addr} {slLE : Array (Option Value)} {ocLE kVLE dcLE pmLE cdLE ctLE : Value}
    {fW : Addr} {odW anW : Option Addr} {slW : Array (Option Value)} {ocW kVW dcW pmW cdW ctW : Value}
    {fDR : Addr} {odDR anDR : Option Addr} {slDR : Array (Option Value)} {ocDR kVDR dcDR pmDR cdDR ctDR : Value}
    {fO : Addr} {odO anO : Option Addr} {slO : Array (Option Value)} {ocO kVO dcO pmO cdO ctO : Value}
    {fQ : Addr} {odQ anQ : Option Addr} {slQ : Array (Option Value)} {ocQ kVQ dcQ pmQ cdQ ctQ : Value}
    {fR1 : Addr} {odR1 anR1 : Option Addr} {slR1 : Array (Option Value)} {ocR1 kVR1 dcR1 pmR1  ctR1 : Value} {cR1a PR1a : Addr}
    {fR2 : Addr} {odR2 anR2 : Option Addr} {slR2 : Array (Option Value)} {ocR2 kVR2 dcR2 pmR2  ctR2 : Value} {cR2a PR2a : Addr}
    {fZ : Addr} {odZ anZ : Option Addr} {slZ : Array (Option Value)} {ocZ kVZ dcZ pmZ cdZ ctZ : Value}
    (T1 : ErrTxt l.prog K mg "NoText" "text" C1 i1) (T2 : ErrTxt l.prog K mg "NoNumber" "number" C2 i2) (hn : PySem.W.specialIn K (.builtin "object.__class__") "__get__" = some (some (.builtin "getset_descriptor.__get__"))) (ht : PySem.W.takesIn K (.builtin "object.__class__") = some true) (haC1 : PySem.W.findIn K (.ref C1) "__class__" = some (some (.builtin "object.__class__"))) (hmC1 : PySem.W.mroIn K C1 (.type "object") = some true) (k0C1 : PySem.W.kitOne K (.ref C1) (.ref E0) = some true) (kVC1 : PySem.W.kitOne K (.ref C1) (.type "ValueError") = some true) (kC1C2 : PySem.W.kitOne K (.ref C1) (.ref C2) = some false) (eC1C1 : PySem.W.exmOne K (.ref C1) (.ref C1) = some true) (hP12 : decide (PR1a = PR2a) = false)
    (aX : PySem.W.nsIn K mainGlobals "is_text" = some (some (.ref fX))) (lX : K.lookup fX = some ⟨ocX, odX, .func (PySem.W.fnOf "is_text" "is_text" (defArgs sIsText) (defBody sIsText) (defScope sIsText) .none kVX dcX pmX anX cdX ctX), slX⟩) (cX : PySem.W.codeIn K cdX "is_text" = true) (kX : PySem.W.keepIn K (.ref fX) = true)
    (aWd : PySem.W.nsIn K mainGlobals "is_word" = some (some (.ref fWd))) (lWd : K.lookup fWd = some ⟨ocWd, odWd, .func (PySem.W.fnOf "is_word" "is_word" (defArgs sIsWord) (defBody sIsWord) (defScope sIsWord) .none kVWd dcWd pmWd anWd cdWd ctWd), slWd⟩) (cWd : PySem.W.codeIn K cdWd "is_word" = true) (kWd : PySem.W.keepIn K (.ref fWd) = true)
    (aLs : PySem.W.nsIn K mainGlobals "is_letters" = some (some (.ref fLs))) (lLs : K.lookup fLs = some ⟨ocLs, odLs, .func (PySem.W.fnOf "is_letters" "is_letters" (defArgs sIsLs) (defBody sIsLs) (defScope sIsLs) .none kVLs dcLs pmLs anLs cdLs ctLs), slLs⟩) (cLs : PySem.W.codeIn K cdLs "is_letters" = true) (kLs : PySem.W.keepIn K (.ref fLs) = true)
    (aSL : PySem.W.nsIn K mainGlobals "is_sorted_letters" = some (some (.ref fSL))) (lSL : K.lookup fSL = some ⟨ocSL, odSL, .func (PySem.W.fnOf "is_sorted_letters" "is_sorted_letters" (defArgs sIsSL) (defBody sIsSL) (defScope sIsSL) .none kVSL dcSL pmSL anSL cdSL ctSL), slSL⟩) (cSL : PySem.W.codeIn K cdSL "is_sorted_letters" = true) (kSL : PySem.W.keepIn K (.ref fSL) = true)
    (aOv : PySem.W.nsIn K mainGlobals "is_over" = some (some (.ref fOv))) (lOv : K.lookup fOv = some ⟨ocOv, odOv, .func (PySem.W.fnOf "is_over" "is_over" (defArgs sIsOver) (defBody sIsOver) (defScope sIsOver) .none kVOv dcOv pmOv anOv cdOv ctOv), slOv⟩) (cOv : PySem.W.codeIn K cdOv "is_over" = true) (kOv : PySem.W.keepIn K (.ref fOv) = true)
    (aCT : PySem.W.nsIn K mainGlobals "check_text" = some (some (.ref fCT))) (lCT : K.lookup fCT = some ⟨ocCT, odCT, .func (PySem.W.fnOf "check_text" "check_text" (defArgs sCkText) (defBody sCkText) (defScope sCkText) .none kVCT dcCT pmCT anCT cdCT ctCT), slCT⟩) (cCT : PySem.W.codeIn K cdCT "check_text" = true) (kCT : PySem.W.keepIn K (.ref fCT) = true)
    (aCS : PySem.W.nsIn K mainGlobals "check_sorted_letters" = some (some (.ref fCS))) (lCS : K.lookup fCS = some ⟨ocCS, odCS, .func (PySem.W.fnOf "check_sorted_letters" "check_sorted_letters" (defArgs sCkSL) (defBody sCkSL) (defScope sCkSL) .none kVCS dcCS pmCS anCS cdCS ctCS), slCS⟩) (cCS : PySem.W.codeIn K cdCS "check_sorted_letters" = true) (kCS : PySem.W.keepIn K (.ref fCS) = true)
    (aCW : PySem.W.nsIn K mainGlobals "check_word_over" = some (some (.ref fCW))) (lCW : K.lookup fCW = some ⟨ocCW, odCW, .func (PySem.W.fnOf "check_word_over" "check_word_over" (defArgs sCkWO) (defBody sCkWO) (defScope sCkWO) .none kVCW dcCW pmCW anCW cdCW ctCW), slCW⟩) (cCW : PySem.W.codeIn K cdCW "check_word_over" = true) (kCW : PySem.W.keepIn K (.ref fCW) = true)
    (aLA : PySem.W.nsIn K mainGlobals "least_absent" = some (some (.ref fLA))) (lLA : K.lookup fLA = some ⟨ocLA, odLA, .func (PySem.W.fnOf "least_absent" "least_absent" (defArgs sLA) (defBody sLA) (defScope sLA) .none kVLA dcLA pmLA anLA cdLA ctLA), slLA⟩) (cLA : PySem.W.codeIn K cdLA "least_absent" = true) (kLA : PySem.W.keepIn K (.ref fLA) = true)
    (aTA : PySem.W.nsIn K mainGlobals "text_of_absent" = some (some (.ref fTA))) (lTA : K.lookup fTA = some ⟨ocTA, odTA, .func (PySem.W.fnOf "text_of_absent" "text_of_absent" (defArgs sTA) (defBody sTA) (defScope sTA) .none kVTA dcTA pmTA anTA cdTA ctTA), slTA⟩) (cTA : PySem.W.codeIn K cdTA "text_of_absent" = true) (kTA : PySem.W.keepIn K (.ref fTA) = true)
    (aCA : PySem.W.nsIn K mainGlobals "_check_absent" = some (some (.ref fCA))) (lCA : K.lookup fCA = some ⟨ocCA, odCA, .func (PySem.W.fnOf "_check_absent" "_check_absent" (defArgs sCA) (defBody sCA) (defScope sCA) .none kVCA dcCA pmCA anCA cdCA ctCA), slCA⟩) (cCA : PySem.W.codeIn K cdCA "_check_absent" = true) (kCA : PySem.W.keepIn K (.ref fCA) = true)
    (aLE : PySem.W.nsIn K mainGlobals "_is_least" = some (some (.ref fLE))) (lLE : K.lookup fLE = some ⟨ocLE, odLE, .func (PySem.W.fnOf "_is_least" "_is_least" (defArgs sLeast) (defBody sLeast) (defScope sLeast) .none kVLE dcLE pmLE anLE cdLE ctLE), slLE⟩) (cLE : PySem.W.codeIn K cdLE "_is_least" = true) (kLE : PySem.W.keepIn K (.ref fLE) = true)
    (aW : PySem.W.nsIn K mainGlobals "_law_well" = some (some (.ref fW))) (lW : K.lookup fW = some ⟨ocW, odW, .func (PySem.W.fnOf "_law_well" "_law_well" (defArgs sWell) (defBody sWell) (defScope sWell) .none kVW dcW pmW anW cdW ctW), slW⟩) (cW : PySem.W.codeIn K cdW "_law_well" = true) (kW : PySem.W.keepIn K (.ref fW) = true)
    (aDR : PySem.W.nsIn K mainGlobals "_law_draw" = some (some (.ref fDR))) (lDR : K.lookup fDR = some ⟨ocDR, odDR, .func (PySem.W.fnOf "_law_draw" "_law_draw" (defArgs sDraw) (defBody sDraw) (defScope sDraw) .none kVDR dcDR pmDR anDR cdDR ctDR), slDR⟩) (cDR : PySem.W.codeIn K cdDR "_law_draw" = true) (kDR : PySem.W.keepIn K (.ref fDR) = true)
    (aO : PySem.W.nsIn K mainGlobals "_law_one" = some (some (.ref fO))) (lO : K.lookup fO = some ⟨ocO, odO, .func (PySem.W.fnOf "_law_one" "_law_one" (defArgs sOne) (defBody sOne) (defScope sOne) .none kVO dcO pmO anO cdO ctO), slO⟩) (cO : PySem.W.codeIn K cdO "_law_one" = true) (kO : PySem.W.keepIn K (.ref fO) = true)
    (aQ : PySem.W.nsIn K mainGlobals "_law_said" = some (some (.ref fQ))) (lQ : K.lookup fQ = some ⟨ocQ, odQ, .func (PySem.W.fnOf "_law_said" "_law_said" (defArgs sSaid) (defBody sSaid) (defScope sSaid) .none kVQ dcQ pmQ anQ cdQ ctQ), slQ⟩) (cQ : PySem.W.codeIn K cdQ "_law_said" = true) (kQ : PySem.W.keepIn K (.ref fQ) = true)
    (aR1 : PySem.W.nsIn K mainGlobals "_law_letters_right" = some (some (.ref fR1))) (lR1 : K.lookup fR1 = some ⟨ocR1, odR1, .func (PySem.W.fnOf "_law_letters_right" "_law_letters_right" (defArgs sR1) (defBody sR1) (defScope sR1) .none kVR1 dcR1 pmR1 anR1 (.ref cR1a) ctR1), slR1⟩) (cR1 : PySem.W.codeIn K (.ref cR1a) "_law_letters_right" = true) (kR1 : PySem.W.keepIn K (.ref fR1) = true)
    (aR2 : PySem.W.nsIn K mainGlobals "_law_words_right" = some (some (.ref fR2))) (lR2 : K.lookup fR2 = some ⟨ocR2, odR2, .func (PySem.W.fnOf "_law_words_right" "_law_words_right" (defArgs sR2) (defBody sR2) (defScope sR2) .none kVR2 dcR2 pmR2 anR2 (.ref cR2a) ctR2), slR2⟩) (cR2 : PySem.W.codeIn K (.ref cR2a) "_law_words_right" = true) (kR2 : PySem.W.keepIn K (.ref fR2) = true)
    (aZ : PySem.W.nsIn K mainGlobals "law" = some (some (.ref fZ))) (lZ : K.lookup fZ = some ⟨ocZ, odZ, .func (PySem.W.fnOf "law" "law" (defArgs sLaw) (defBody sLaw) (defScope sLaw) .none kVZ dcZ pmZ anZ cdZ ctZ), slZ⟩) (cZ : PySem.W.codeIn K cdZ "law" = true) (kZ : PySem.W.keepIn K (.ref fZ) = true)
    (hTabR1 : h.get? PR1a = some { cls := .none, data := .fields #[] }) (nTR1 : K.lookup PR1a = none) (hCdR1 : PySem.W.codeHdIn K cR1a PR1a = true) (hTabR2 : h.get? PR2a = some { cls := .none, data := .fields #[] }) (nTR2 : K.lookup PR2a = none) (hCdR2 : PySem.W.codeHdIn K cR2a PR2a = true)
    (y1 : PySem.W.nsIn K mainGlobals "LETTERS" = some (some (.str "abcdefghijklmnopqrstuvwxyz" t1))) (y2 : PySem.W.nsIn K mainGlobals "TurnError" = some (some (.ref E0)))
    (z1 : PySem.W.nsIn K mainGlobals "isinstance" = some none) (z2 : PySem.W.nsIn K mainGlobals "ValueError" = some none) (z3 : PySem.W.nsIn K mainGlobals "int" = some none) (z4 : PySem.W.nsIn K mainGlobals "str" = some none) (z5 : PySem.W.nsIn K mainGlobals "all" = some none) (z6 : PySem.W.nsIn K mainGlobals "len" = some none) (z7 : PySem.W.nsIn K mainGlobals "set" = some none) (z8 : PySem.W.nsIn K mainGlobals "list" = some none) (z9 : PySem.W.nsIn K mainGlobals "tuple" = some none) (z10 : PySem.W.nsIn K mainGlobals "sorted" = some none) : LawAtS l w K CX0 10 63 "_law_script" mg fa h := by
  have e := hfa.symm.trans (PySem.W.mg_of X G aZ)
  cases e
  have TD : TxtD K mg := ⟨PySem.W.mg_none_of X G z3, PySem.W.mg_none_of X G z6⟩
  have TC : TxtC K mg := ⟨PySem.W.mg_none_of X G z1, PySem.W.mg_none_of X G z4, PySem.W.mg_none_of X G z5, PySem.W.mg_none_of X G z6, PySem.W.mg_none_of X G z7, PySem.W.mg_none_of X G z8, PySem.W.mg_none_of X G z9, PySem.W.mg_none_of X G z10, ⟨_, PySem.W.mg_of X G y1, ⟨_, rfl⟩⟩⟩
  have xC1 : ExcC K C1 := ⟨T1.ga, T1.gg, T1.exC, T1.hdC, haC1, hn, ht, hmC1⟩
  have M : Kinds K mg E0 C1 C2 := ⟨PySem.W.mg_none_of X G z1, PySem.W.mg_none_of X G z2, PySem.W.mg_of X G y2, T1.gC, T2.gC, xC1, k0C1, kVC1, kC1C2, eC1C1⟩
  have hP : PR1a ≠ PR2a := of_decide_eq_false hP12
  have FX := fun_mk (st := sIsText) lX cX kX
  have FWd := fun_mk (st := sIsWord) lWd cWd kWd
  have FLs := fun_mk (st := sIsLs) lLs cLs kLs
  have FSL := fun_mk (st := sIsSL) lSL cSL kSL
  have FOv := fun_mk (st := sIsOver) lOv cOv kOv
  have FCT := fun_mk (st := sCkText) lCT cCT kCT
  have FCS := fun_mk (st := sCkSL) lCS cCS kCS
  have FCW := fun_mk (st := sCkWO) lCW cCW kCW
  have FLA := fun_mk (st := sLA) lLA cLA kLA
  have FTA := fun_mk (st := sTA) lTA cTA kTA
  have FCA := fun_mk (st := sCA) lCA cCA kCA
  have FLE := fun_mk (st := sLeast) lLE cLE kLE
  have FW := fun_mk (st := sWell) lW cW kW
  have FDR := fun_mk (st := sDraw) lDR cDR kDR
  have FO := fun_mk (st := sOne) lO cO kO
  have FQ := fun_mk (st := sSaid) lQ cQ kQ
  have FR1 := fun_mk (st := sR1) lR1 cR1 kR1
  have FR2 := fun_mk (st := sR2) lR2 cR2 kR2
  have FZ := fun_mk (st := sLaw) lZ cZ kZ
  have bX := FX.binds (ps := ["value"]) fun _ _ _ _ _ _ us hl => match us, hl with | [_], _ => rfl
  have bWd := FWd.binds (ps := ["value"]) fun _ _ _ _ _ _ us hl => match us, hl with | [_], _ => rfl
  have bLs := FLs.binds (ps := ["value"]) fun _ _ _ _ _ _ us hl => match us, hl with | [_], _ => rfl
  have bSL := FSL.binds (ps := ["value"]) fun _ _ _ _ _ _ us hl => match us, hl with | [_], _ => rfl
  have bOv := FOv.binds (ps := ["text", "letters"]) fun _ _ _ _ _ _ us hl => match us, hl with | [_, _], _ => rfl
  have bCT := FCT.binds (ps := ["text"]) fun _ _ _ _ _ _ us hl => match us, hl with | [_], _ => rfl
  have bCS := FCS.binds (ps := ["letters", "text"]) fun _ _ _ _ _ _ us hl => match us, hl with | [_, _], _ => rfl
  have bCW := FCW.binds (ps := ["word", "letters"]) fun _ _ _ _ _ _ us hl => match us, hl with | [_, _], _ => rfl
  have bLA := FLA.binds (ps := ["text", "letters"]) fun _ _ _ _ _ _ us hl => match us, hl with | [_, _], _ => rfl
  have bTA := FTA.binds (ps := ["words", "letters"]) fun _ _ _ _ _ _ us hl => match us, hl with | [_, _], _ => rfl
  have bCA := FCA.binds (ps := ["words", "letters"]) fun _ _ _ _ _ _ us hl => match us, hl with | [_, _], _ => rfl
  have bLE := FLE.binds (ps := ["words"]) fun _ _ _ _ _ _ us hl => match us, hl with | [_], _ => rfl
  have bW := FW.binds (ps := ["_law_cell"]) fun _ _ _ _ _ _ us hl => match us, hl with | [_], _ => rfl
  have bDR := FDR.binds (ps := ["_law_well_here", "_law_many"]) fun _ _ _ _ _ _ us hl => match us, hl with | [_, _], _ => rfl
  have bO := FO.binds (ps := ["_law_well_here", "_law_some"]) fun _ _ _ _ _ _ us hl => match us, hl with | [_, _], _ => rfl
  have bQ := FQ.binds (ps := ["_law_ask"]) fun _ _ _ _ _ _ us hl => match us, hl with | [_], _ => rfl
  have bR1 := FR1.binds (ps := ["_law_odd"]) fun _ _ _ _ _ _ us hl => match us, hl with | [_], _ => rfl
  have bR2 := FR2.binds (ps := ["_law_well_here", "_law_odd"]) fun _ _ _ _ _ _ us hl => match us, hl with | [_, _], _ => rfl
  have gX := PySem.W.mg_of X G aX
  have gWd := PySem.W.mg_of X G aWd
  have gLs := PySem.W.mg_of X G aLs
  have gSL := PySem.W.mg_of X G aSL
  have gOv := PySem.W.mg_of X G aOv
  have gCT := PySem.W.mg_of X G aCT
  have gCS := PySem.W.mg_of X G aCS
  have gCW := PySem.W.mg_of X G aCW
  have gLA := PySem.W.mg_of X G aLA
  have gTA := PySem.W.mg_of X G aTA
  have gCA := PySem.W.mg_of X G aCA
  have gLE := PySem.W.mg_of X G aLE
  have gW := PySem.W.mg_of X G aW
  have gDR := PySem.W.mg_of X G aDR
  have gO := PySem.W.mg_of X G aO
  have gQ := PySem.W.mg_of X G aQ
  have gR1 := PySem.W.mg_of X G aR1
  have gR2 := PySem.W.mg_of X G aR2
  have gZ := PySem.W.mg_of X G aZ
  refine ⟨PySem.W.fnOf "law" "law" (defArgs sLaw) (defBody sLaw) (defScope sLaw) .none kVZ dcZ pmZ anZ cdZ ctZ, [(cR1a, PR1a), (cR2a, PR2a)], spLaw K PR1a PR2a, fun p hp => ?_, fun p hp => ?_, fun p hp => ?_, fun s u => .of_eq rfl, fun H a ns hl _ hT hS => ⟨a, ns, rfl, hS, hl, hT (cR1a, PR1a) List.mem_cons_self, hT (cR2a, PR2a) (List.mem_cons_of_mem _ List.mem_cons_self), fun _ => rfl⟩, fun base _ _ hB => ?_⟩
  · rcases List.mem_cons.mp hp with rfl | hp
    · exact hTabR1
    rcases List.mem_cons.mp hp with rfl | hp
    · exact hTabR2
    exact absurd hp List.not_mem_nil
  · rcases List.mem_cons.mp hp with rfl | hp
    · exact nTR1
    rcases List.mem_cons.mp hp with rfl | hp
    · exact nTR2
    exact absurd hp List.not_mem_nil
  · rcases List.mem_cons.mp hp with rfl | hp
    · exact PySem.W.codeHd_of_K X hCdR1
    rcases List.mem_cons.mp hp with rfl | hp
    · exact PySem.W.codeHd_of_K X hCdR2
    exact absurd hp List.not_mem_nil
  have TBR1 : TabB base mg cR1a PR1a := hB (cR1a, PR1a) List.mem_cons_self
  have TBR2 : TabB base mg cR2a PR2a := hB (cR2a, PR2a) (List.mem_cons_of_mem _ List.mem_cons_self)
  have GX : FnOk l.prog w K mg base CX0 1 fX _ ["value"] (spWhat isT) := ok_isText FX TC
  have GWd : FnOk l.prog w K mg base CX0 2 fWd _ ["value"] (spWhat isW) := ok_isWord FWd TC GX gX kX bX
  have GLs : FnOk l.prog w K mg base CX0 2 fLs _ ["value"] (spWhat isLs) := ok_isLs FLs TC GX gX kX bX
  have GSL : FnOk l.prog w K mg base CX0 3 fSL _ ["value"] (spSL) := ok_IsSL FSL TC GLs gLs kLs bLs
  have GOv : FnOk l.prog w K mg base CX0 1 fOv _ ["text", "letters"] (spOver) := ok_IsOver FOv TC
  have GCT : FnOk l.prog w K mg base (L2.CX l.prog w) 4 fCT _ ["text"] (spCk C1 isT) := ok_CkText FCT T1 GX gX kX bX
  have GCS : FnOk l.prog w K mg base (L2.CX l.prog w) 4 fCS _ ["letters", "text"] (spCkSL C1) := ok_CkSL FCS T1 GSL gSL kSL bSL GOv gOv kOv bOv
  have GCW : FnOk l.prog w K mg base (L2.CX l.prog w) 4 fCW _ ["word", "letters"] (spCkWO C1) := ok_CkWO FCW T1 GWd gWd kWd bWd GOv gOv kOv bOv
  have GLA : FnOk l.prog w K mg base (L2.CX l.prog w) 5 fLA _ ["text", "letters"] (spLA C1) := ok_LA FLA GCT gCT kCT bCT GCS gCS kCS bCS
  have GCA : FnOk l.prog w K mg base (L2.CX l.prog w) 5 fCA _ ["words", "letters"] (spCA C1) := ok_CA FCA TC T1 GCW gCW kCW bCW
  have GLE : FnOk l.prog w K mg base CX0 1 fLE _ ["words"] (spLeast) := ok_Least FLE TC
  have GTA : FnOk l.prog w K mg base (L2.CX l.prog w) 6 fTA _ ["words", "letters"] (spTA C1) := ok_TA FTA TC GCS gCS kCS bCS GCA gCA kCA bCA GLE gLE kLE bLE
  have GW : FnOk l.prog w K mg base CX0 1 fW _ ["_law_cell"] (spWell) := ok_well FW TD
  have GDR : FnOk l.prog w K mg base CX0 1 fDR _ ["_law_well_here", "_law_many"] (spDraw) := ok_draw FDR TD
  have GO : FnOk l.prog w K mg base CX0 2 fO _ ["_law_well_here", "_law_some"] (spOne) := ok_one FO TD FDR gDR bDR
  have GR1 : FnOk l.prog w K mg base CX0 9 fR1 _ ["_law_odd"] (spR1 PR1a PR2a) := ok_R1 lR1 cR1 TBR1 hP M T1 ⟨lQ, gQ, kQ, cQ, bQ⟩ GLA gLA kLA bLA GTA gTA kTA bTA
  have GR2 : FnOk l.prog w K mg base CX0 9 fR2 _ ["_law_well_here", "_law_odd"] (spR2 PR1a PR2a) := ok_R2 lR2 cR2 TBR2 hP M T1 TC ⟨lQ, gQ, kQ, cQ, bQ⟩ GTA gTA kTA bTA GDR gDR kDR bDR
  exact ok_law FZ GW gW kW bW GO gO kO bO GR1 gR1 kR1 bR1 GR2 gR2 kR2 bR2
end T74
open PySem PySem.W PyProof.Rows
set_option maxRecDepth 100000 in
set_option maxHeartbeats 0 in
theorem PySem.Challenge.cw_turnindex_k74_refused_absent_words_holds : PySem.Challenge.rw_turnindex_k74_refused_absent_words.Holds := by
  w_on; o_law; k_head; (case hw => w_witness2)
  k_fill
  refine LamX.walk_ofTs (l := PySem.Challenge.rw_turnindex_k74_refused_absent_words) (n := 63) (k := 10) (x := "_law_script") (CX := fun _ => L2.CX0) rfl (by decide) rfl ⟨rfl, by decide, by decide⟩ (fun w h Y => PySem.W.km_in_of Y) ?F (fun _ _ _ _ _ z => z)
  case F =>
    intro w mg fa h Y KX G hmg
    refine' T74.all_mk KX G hmg (EK.err_mk (x := "NoText") (f := "text") KX G ?aC1 ?xL1 ?rv1 ?iC1 ?l11 ?c11 ?bd1 ?sc1 ?cd1 ?vf1 ?pf1 ?cL1 ?eB1 ?ho1 ?su1 ?fok1 ?top1) (EK.err_mk (x := "NoNumber") (f := "number") KX G ?aC2 ?xL2 ?rv2 ?iC2 ?l12 ?c12 ?bd2 ?sc2 ?cd2 ?vf2 ?pf2 ?cL2 ?eB2 ?ho2 ?su2 ?fok2 ?top2) ?hn ?ht ?haC1 ?hmC1 ?k0C1 ?kVC1 ?kC1C2 ?eC1C1 ?hP12 ?paX ?plX ?pcX ?pkX ?paWd ?plWd ?pcWd ?pkWd ?paLs ?plLs ?pcLs ?pkLs ?paSL ?plSL ?pcSL ?pkSL ?paOv ?plOv ?pcOv ?pkOv ?paCT ?plCT ?pcCT ?pkCT ?paCS ?plCS ?pcCS ?pkCS ?paCW ?plCW ?pcCW ?pkCW ?paLA ?plLA ?pcLA ?pkLA ?paTA ?plTA ?pcTA ?pkTA ?paCA ?plCA ?pcCA ?pkCA ?paLE ?plLE ?pcLE ?pkLE ?paW ?plW ?pcW ?pkW ?paDR ?plDR ?pcDR ?pkDR ?paO ?plO ?pcO ?pkO ?paQ ?plQ ?pcQ ?pkQ ?paR1 ?plR1 ?pcR1 ?pkR1 ?paR2 ?plR2 ?pcR2 ?pkR2 ?paZ ?plZ ?pcZ ?pkZ (PySem.W.km_tabs_of Y _ (List.mem_cons_of_mem _ (List.mem_cons_of_mem _ List.mem_cons_self))) ?nTR1 ?hCdR1 (PySem.W.km_tabs_of Y _ List.mem_cons_self) ?nTR2 ?hCdR2 ?y1 ?y2 ?z1 ?z2 ?z3 ?z4 ?z5 ?z6 ?z7 ?z8 ?z9 ?z10
    (case aC1 => k_is); (case xL1 => k_is); (case rv1 => kernel_rfl); (case iC1 => k_is); (case l11 => k_is); (case c11 => k_is); (case bd1 => exact fun _ _ => rfl); (case sc1 => exact fun L => ⟨_, rfl⟩); (case cd1 => k_is); (case vf1 => rfl); (case pf1 => kernel_rfl); (case cL1 => k_is); (case eB1 => kernel_rfl); (case ho1 => k_is); (case su1 => k_is); (case fok1 => exact ⟨by decide +kernel, by decide +kernel, by decide +kernel, by decide +kernel⟩); (case top1 => kernel_rfl)
    (case aC2 => k_is); (case xL2 => k_is); (case rv2 => kernel_rfl); (case iC2 => k_is); (case l12 => k_is); (case c12 => k_is); (case bd2 => exact fun _ _ => rfl); (case sc2 => exact fun L => ⟨_, rfl⟩); (case cd2 => k_is); (case vf2 => rfl); (case pf2 => kernel_rfl); (case cL2 => k_is); (case eB2 => kernel_rfl); (case ho2 => k_is); (case su2 => k_is); (case fok2 => exact ⟨by decide +kernel, by decide +kernel, by decide +kernel, by decide +kernel⟩); (case top2 => kernel_rfl)
    (case hn => kernel_rfl)
    (case ht => kernel_rfl)
    (case haC1 => kernel_rfl)
    (case hmC1 => kernel_rfl)
    (case k0C1 => kernel_rfl)
    (case kVC1 => kernel_rfl)
    (case kC1C2 => kernel_rfl)
    (case eC1C1 => kernel_rfl)
    (case hP12 => kernel_rfl)
    (case paX => k_is); (case plX => k_is); (case pcX => k_is); (case pkX => k_is)
    (case paWd => k_is); (case plWd => k_is); (case pcWd => k_is); (case pkWd => k_is)
    (case paLs => k_is); (case plLs => k_is); (case pcLs => k_is); (case pkLs => k_is)
    (case paSL => k_is); (case plSL => k_is); (case pcSL => k_is); (case pkSL => k_is)
    (case paOv => k_is); (case plOv => k_is); (case pcOv => k_is); (case pkOv => k_is)
    (case paCT => k_is); (case plCT => k_is); (case pcCT => k_is); (case pkCT => k_is)
    (case paCS => k_is); (case plCS => k_is); (case pcCS => k_is); (case pkCS => k_is)
    (case paCW => k_is); (case plCW => k_is); (case pcCW => k_is); (case pkCW => k_is)
    (case paLA => k_is); (case plLA => k_is); (case pcLA => k_is); (case pkLA => k_is)
    (case paTA => k_is); (case plTA => k_is); (case pcTA => k_is); (case pkTA => k_is)
    (case paCA => k_is); (case plCA => k_is); (case pcCA => k_is); (case pkCA => k_is)
    (case paLE => k_is); (case plLE => k_is); (case pcLE => k_is); (case pkLE => k_is)
    (case paW => k_is); (case plW => k_is); (case pcW => k_is); (case pkW => k_is)
    (case paDR => k_is); (case plDR => k_is); (case pcDR => k_is); (case pkDR => k_is)
    (case paO => k_is); (case plO => k_is); (case pcO => k_is); (case pkO => k_is)
    (case paQ => k_is); (case plQ => k_is); (case pcQ => k_is); (case pkQ => k_is)
    (case paR1 => k_is); (case plR1 => k_is); (case pcR1 => k_is); (case pkR1 => k_is)
    (case paR2 => k_is); (case plR2 => k_is); (case pcR2 => k_is); (case pkR2 => k_is)
    (case paZ => k_is); (case plZ => k_is); (case pcZ => k_is); (case pkZ => k_is)
    (case nTR1 => kernel_rfl); (case hCdR1 => kernel_rfl)
    (case nTR2 => kernel_rfl); (case hCdR2 => kernel_rfl)
    (case y1 => k_is)
    (case y2 => k_is)
    (case z1 => k_is); (case z2 => k_is); (case z3 => k_is); (case z4 => k_is); (case z5 => k_is); (case z6 => k_is); (case z7 => k_is); (case z8 => k_is); (case z9 => k_is); (case z10 => k_is)
