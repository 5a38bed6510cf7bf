import PyProof.Rows.All
import Wide.All
import OpenK.AllK
import Wide.FinOn
import KE.KExcSuper
import HandS.ForMost
import HandS.Exc
import HandS.ExcInit
import HandS.ExcField
import HandS.ExcValue
import HandS.Style
import HandS.Walk
import HandS.IsInst
import HandS.More
import KE.KExcIs
import PyProof.NeKinds
import KE.KEqDict
import HandS.ExcIs
import HandS.Conv
import HandS.Iter
import HandS.SetFor
import HandS.Strs
import HandS.Zip
import PyProof.Rows.ChunkLeaf
import HandS.Comp
import HandS.Words
import KE.SortData
import KE.DataMinMax
import KE.KEqSeq
import HandS.TupAny
import HandS.DictSubView
import HandS.Sort
import HandS.Gcd
import HandS.Wide
import KE.KDictList
import KE.KMathGC
import HandS.TryMany
import HandS.Lambda
import HandS.EndTab
import HandS.Text
import HandS.Nested
import KE.SortKeyHeap
import KE.KSortKey
import PyProof.SliceStr2
import HandS.SortInts
import PyProof.Draws
import PyProof.EnumMake
import KE.GoesMore
import HandS.Keys
import HandS.Codes
import HandS.WordsExc
import HandS.NoneIn
import KE.KNestM
import PySem.Challenge.RW_turnindex_k21_whole_orders_of_all_texts
set_option Elab.async false
set_option linter.all false
set_option maxRecDepth 100000
set_option maxHeartbeats 4000000
/-! ErrKit: an error class of the program: __init__ says super().__init__(text), then keeps its one value. -/
namespace EK
open PySem PySem.W PySem.Calls PyProof.Rows PySem.HandSPX L2
/-! ### the text of such an __init__ -/
def eArgs (f : Str) (p1 p2 : Pos) : Arguments := { posonlyargs := [], args := [{ arg := "self", annotation := none, pos := p1 }, { arg := f, annotation := none, pos := p2 }], vararg := none, kwonlyargs := [], kw_defaults := [], kwarg := none, defaults := [] }
def eBody (f msg : Str) (a1 a2 a3 a4 a5 a6 b1 b2 b3 b4 : Pos) : List Stmt :=
  [.Expr (.Call (.Attribute (.Call (.Name "super" a1) [] [] a2) "__init__" a3) [.Constant (.str msg) 0 a4] [] a5) a6, .Assign [.Attribute (.Name "self" b1) f b2] (.Name f b3) b4]
def eScope (f : Str) : Scope := { kind := .function, names := [(PySem.Str.ofString "self", .local), (f, .local), (PySem.Str.ofString "__class__", .free), (PySem.Str.ofString "super", .globalImplicit)], isGenerator := false, isCoroutine := false, more := [] }

/-- the row super().__init__(msg) of the text, as a call of a method -/
def SupCall (a1 a2 a3 a4 a5 : Pos) (msg : Str) (env : Env) : Prop := ∃ pl : Sem Bool,
  eval (.Call (.Attribute (.Call (.Name "super" a1) [] [] a2) "__init__" a3) [.Constant (.str msg) 0 a4] [] a5) env = (do
    let ov ← attributeBase (.Call (.Name "super" a1) [] [] a2) "__init__" env (eval (.Call (.Name "super" a1) [] [] a2) env)
    standAt a3.atName
    let (g, first) ← holding [ov] (getMethod ov "__init__" pl)
    callWith a5 g first (backTo a5 (starEach [.Constant (.str msg) 0 a4] env)) [])
/-- what the top has written of the class x at C, of its __init__ at fI -/
structure ErrTxt (P : Program) (K : Frag) (mg : Str → Option Value) (x f : Str) (C fI : Addr) : Prop where
  gC : mg x = some (.ref C)
  cls : ∃ nm q N bs bm sn sub ab col dd k0 k1 k2 k3 k5, K.lookup C = some (excClassObj nm q C N bs bm true sn sub ab col dd k0 k1 k2 k3 k5 "ValueError.__new__") ∧ refsVE bm = true
  sa : findIn K (.ref C) "__setattr__" = some (some (.builtin "object.__setattr__"))
  ga : findIn K (.ref C) "__getattribute__" = some (some (.builtin "BaseException.__getattribute__"))
  gg : findIn K (.ref C) "__getattr__" = some none
  noN : findIn K (.ref C) f = some none
  iC : findIn K (.ref C) "__init__" = some (some (.ref fI))
  tC : typeIn K (.ref fI) = some (.type "function")
  kC : keepIn K (.ref C) = true
  exC : subIn K (.ref C) (.type "BaseException") = some true
  tyC : typeIn K (.ref C) = some (.type "type")
  hdC : hasDictIn K C = true
  te : exmOne K (.ref C) (.ref C) = some true
  hB : subIn K (.ref C) (.type "ValueError") = some true
  si : ks_superIn K C C "__init__" = some (some (.builtin "ValueError.__init__"))
  ho : nsIn K cStatics "thirdparty.any" = some none
  su : mg "super" = none
  mC : mroIn K C (.ref C) = some true
  fok : f ≠ "self" ∧ f ≠ "__class__" ∧ f ≠ "super" ∧ f ≠ "__debug__"
  top : (P.main.scope.names.lookup ("super" : Str)).isSome = false
  fn : ∃ (oc : Value) (od : Option Addr) (qn msg : Str) (doc pm : Value) (an : Option Addr) (cda cc : Addr) (ct : Value) (osl : Array (Option Value)) (p1 p2 a1 a2 a3 a4 a5 a6 b1 b2 b3 b4 : Pos),
    K.lookup fI = some ⟨oc, od, .func (ksFn "__init__" qn (eArgs f p1 p2) (eBody f msg a1 a2 a3 a4 a5 a6 b1 b2 b3 b4) (eScope f) .none .none doc pm an (.ref cda) ct cc), osl⟩ ∧ codeIn K (.ref cda) qn = true ∧
    (∀ u v : Value, bindArgs (ksFn "__init__" qn (eArgs f p1 p2) (eBody f msg a1 a2 a3 a4 a5 a6 b1 b2 b3 b4) (eScope f) .none .none doc pm an (.ref cda) ct cc) ⟨[u, v], []⟩ = pure [(("self" : Str), u), (f, v)]) ∧
    (∀ L : Addr, SupCall a1 a2 a3 a4 a5 msg (callEnv (ksFn "__init__" qn (eArgs f p1 p2) (eBody f msg a1 a2 a3 a4 a5 a6 b1 b2 b3 b4) (eScope f) .none .none doc pm an (.ref cda) ct cc) L fI)) ∧
    (∃ (ccl : Value) (cdd : Option Addr) (ccs : Array (Option Value)) (vs : Array Value) (file : Str) (tf : Tok), K.lookup cda = some ⟨ccl, cdd, .fields vs, ccs⟩ ∧ vs[2]? = some (.str file tf) ∧ ((P.main.file : Str) == file) = true) ∧
    ∃ (cl : Value) (cld : Option Addr) (csl : Array (Option Value)), K.lookup cc = some ⟨cl, cld, .cell (some (.ref C)), csl⟩
theorem one_size (v : Value) : [v].length ≤ sizeLine := by
  rw [sizeLine_eq]
  exact (by decide : 1 ≤ 16777216)
/-- what __init__ leaves of the exception at y -/
structure MadeI (h h' : Heap) (y C dx : Addr) (f : Str) (v : Value) : Prop where
  keep : ∀ b o, b ≠ y → h.get? b = some o → h'.get? b = some o
  obj : ∃ t1 : Addr, h'.get? y = some { cls := .ref C, dict := some dx, data := .fields #[.ref t1, .none, .none, .none, .bool false, .none] }
  dbig : h.objs.size ≤ dx
  dne : dx ≠ y
  ns : h'.Ns1 dx (fun z => if z = f then some v else none)
theorem kept_but {K : Frag} {h h' : Heap} {x : Addr} (X : K.In h) (hx : K.lookup x = none) (k : ∀ b o, b ≠ x → h.get? b = some o → h'.get? b = some o) : K.In h' := fun a o e =>
  k a o (fun z => by rw [z, hx] at e; cases e) (X a o e)
section
variable {prog : Program} {w : World} {A : Around} {E : Value → Shared → Prop} {R : Result → Shared → Prop} {s : Shared} {K : Frag} {mg : Str → Option Value} {C fI : Addr} {x f : Str}
/-- the method-wrapper that super().__init__ gives is called -/
theorem call_mw {u e t0 : Addr} {rest : List Value} {nm q : Str} {C N : Addr} {bs bm : List Value} {hdct : Bool} {sn : List Str} {sub : List Value} {ab : Bool} {col : Option Bool} {dd : Option Addr} {k0 k1 k2 k3 k5 : Option Value} {Q : Value → Shared → Prop}
    (hC : s.heap.get? C = some (excClassObj nm q C N bs bm hdct sn sub ab col dd k0 k1 k2 k3 k5 "ValueError.__new__")) (he : s.heap.get? e = some (excO C t0)) (hu : s.heap.get? u = some (kxs_mw "ValueError.__init__" e)) (hrest : rest.length ≤ sizeLine)
    (hq : ∀ h' t1, (∀ b o, b ≠ e → s.heap.get? b = some o → h'.get? b = some o) → h'.get? e = some (excO C t1) → Q .none { s with heap := h' }) :
    wpAny (model prog w) A (call (.ref u) rest) Q E s := by
  obtain ⟨hh, g, d, tk, os⟩ := s
  refine wpAny_call (codeAny_of_tree ?_)
  show wpAny _ A.in1 (callAny (.ref u) ⟨rest, []⟩) _ _ _
  simp only [callAny]
  refine wpAny_bind (wpAny_load hu ?_)
  simp only [kxs_mw, show (Value.type "method-wrapper" == Value.type "method" || Value.type "method-wrapper" == Value.type "builtin_function_or_method" || Value.type "method-wrapper" == Value.type "method-wrapper") = true by decide, if_true]
  refine KFB.if_so (by decide) ?_
  refine wpAny_bind (check_bound_init F.excBase_ValueError.toExcCallFacts hC he rfl ?_)
  refine wpAny_bind (wpAny_pure (wpAny_pure ?_))
  refine ⟨plainId_quiet F.excBase_ValueError.init.plain _, codeAny_builtin F.excBase_ValueError.initEntry ?_⟩
  exact exc_init_tree (cls := .ref C) (t0 := t0) (dv := none) (c2 := .none) (c3 := .none) (b4 := .bool false) he hrest fun h' k o _ => hq h' _ k o
theorem look_self (f : Str) : (eScope f).names.lookup ("self" : Str) = some .local := by
  show List.lookup ("self" : Str) ((("self" : Str), NameKind.local) :: _) = _
  rw [List.lookup_cons]
  simp
theorem look_f {f : Str} (h : f ≠ "self") : (eScope f).names.lookup f = some .local := by
  have e : (f == ("self" : Str)) = false := by simpa using h
  show List.lookup f ((("self" : Str), NameKind.local) :: (f, NameKind.local) :: _) = _
  rw [List.lookup_cons, e, List.lookup_cons]
  simp
theorem look_cls {f : Str} (h : f ≠ "__class__") : (eScope f).names.lookup ("__class__" : Str) = some .free := by
  have e : ((("__class__" : Str)) == f) = false := by simpa using Ne.symm h
  have e2 : ((("__class__" : Str)) == ("self" : Str)) = false := by decide +kernel
  show List.lookup ("__class__" : Str) ((("self" : Str), NameKind.local) :: (f, NameKind.local) :: (("__class__" : Str), NameKind.free) :: _) = _
  rw [List.lookup_cons, e2, List.lookup_cons, e, List.lookup_cons]
  simp
theorem look_super {f : Str} (h : f ≠ "super") : (eScope f).names.lookup ("super" : Str) = some .globalImplicit := by
  have e : ((("super" : Str)) == f) = false := by simpa using Ne.symm h
  have e2 : ((("super" : Str)) == ("self" : Str)) = false := by decide +kernel
  have e3 : ((("super" : Str)) == ("__class__" : Str)) = false := by decide +kernel
  show List.lookup ("super" : Str) ((("self" : Str), NameKind.local) :: (f, NameKind.local) :: (("__class__" : Str), NameKind.free) :: (("super" : Str), NameKind.globalImplicit) :: []) = _
  rw [List.lookup_cons, e2, List.lookup_cons, e, List.lookup_cons, e3, List.lookup_cons]
  simp
theorem bl_self {f : Str} (h : f ≠ "self") (a v : Value) : List.lookup ("self" : Str) ([(("self" : Str), a), (f, v)].reverse) = some a := by
  have e : ((("self" : Str)) == f) = false := by simpa using Ne.symm h
  show List.lookup ("self" : Str) ((f, v) :: (("self" : Str), a) :: []) = _
  rw [List.lookup_cons, e, List.lookup_cons]
  simp
theorem bl_f {f : Str} (a v : Value) : List.lookup f ([(("self" : Str), a), (f, v)].reverse) = some v := by
  show List.lookup f ((f, v) :: (("self" : Str), a) :: []) = _
  rw [List.lookup_cons]
  simp
theorem err_init (T : ErrTxt prog K mg x f C fI) {y t0 : Addr} {v : Value} (X : K.In s.heap) (hlim : s.heap.NoLimit) (hg : s.heap.Ns mainGlobals mg) (hb : ∃ mb, s.heap.Ns builtinsNs mb ∧ ∀ z : Str, z ≠ "__name__" → mb z = bootBuiltins z)
    (hx : s.heap.get? y = some (excO C t0)) (hnx : K.lookup y = none) (hroom : A.depth < recursionLimit)
    (hq : ∀ h' tk dx, MadeI s.heap h' y C dx f v → R (.ok (.ret .none)) { s with heap := h', toks := tk }) :
    codeAny (model prog w) A (.call (.ref fI) ⟨[.ref y, v], []⟩) R s := by
  obtain ⟨oc, od, qn, msg, doc, pm, an, cda, cc, ct, osl, p1, p2, a1, a2, a3, a4, a5, a6, b1, b2, b3, b4, ho, hcd, hB, hS, ⟨ccl, cdd, ccs, vs, file, tf, hcda, hvs, hfile⟩, ⟨cl, cld, csl, hcell⟩⟩ := T.fn
  obtain ⟨nm, q, N, bs, bm, sn, sub, ab, col, dd, k0, k1, k2, k3, k5, hC, hbm⟩ := T.cls
  obtain ⟨mb, hbn, hbv⟩ := hb
  obtain ⟨hf1, hf2, hf3, hf4⟩ := T.fok
  have hcl : clsIn K C = some { name := nm, bases := bs, mro := .ref C :: bm, ns := N, qualname := q, hasDict := true, slotNames := sn, subclasses := sub, abstract := ab, collection := col, hasDel := false } := by unfold clsIn; rw [hC] <;> rfl
  refine ks_codeAny_call_defAt (fd := ksFn "__init__" qn (eArgs f p1 p2) (eBody f msg a1 a2 a3 a4 a5 a6 b1 b2 b3 b4) (eScope f) .none .none doc pm an (.ref cda) ct cc) (body := eBody f msg a1 a2 a3 a4 a5 a6 b1 b2 b3 b4) (binds := [(("self" : Str), Value.ref y), (f, v)]) hroom (X _ _ ho) rfl hlim (codeRec_of X hcd) rfl (BindsTo.of_eq (hB _ _)) ?_ ?_ (fun h₁ hns k => ?_) rfl rfl rfl
  · intro z hz
    rcases List.mem_cons.mp hz with rfl | hz
    · exact fun e => nomatch e
    rcases List.mem_cons.mp hz with rfl | hz
    · exact fun e => nomatch e
    rcases List.mem_cons.mp hz with rfl | hz
    · exact fun e => nomatch e
    rcases List.mem_cons.mp hz with rfl | hz
    · exact fun e => nomatch e
    · cases hz
  · intro z hz
    rcases List.mem_cons.mp hz with rfl | hz
    · exact look_self f
    rcases List.mem_cons.mp hz with rfl | hz
    · exact look_f hf1
    · cases hz
  · have X₁ : K.In h₁ := X.keeps k
    have hyL : s.heap.objs.size ≠ y := Nat.ne_of_gt (Heap.lt_size hx)
    have ks : (callEnv (ksFn "__init__" qn (eArgs f p1 p2) (eBody f msg a1 a2 a3 a4 a5 a6 b1 b2 b3 b4) (eScope f) .none .none doc pm an (.ref cda) ct cc) s.heap.objs.size fI).kindOf "super" = some .globalImplicit := look_super hf3
    obtain ⟨oD, hD⟩ : ∃ oD, h₁.get? C = some oD ∧ ∃ cd : ClassData, oD.data = .cls cd := ⟨_, X₁ _ _ hC, _, rfl⟩
    obtain ⟨hD1, cdD, hD2⟩ := hD
    have IY : ∀ {h : Heap}, h.get? y = some (excO C t0) → InstAt h y (excO C t0) C none := fun e => ⟨e, rfl, rfl, trivial⟩
    have hyC : y ≠ C := fun z => by rw [z, hC] at hnx; cases hnx
    obtain ⟨pl, hpl⟩ := hS s.heap.objs.size
    refine ks_wpAt_execs_cons (ks_wpAt_Expr_any (ks_wpAt_MethodCall ?_ hpl) (by rfl) (by rfl))
    refine ks_wpAt_super_base ks (look_cls hf2) (by decide +kernel) rfl (X₁ _ _ ho) rfl rfl rfl (X₁ _ _ hcda) rfl hvs hfile T.top ?_
    refine ks_loadName_global rfl ks (loadGlobal_builtin (hg.keeps k) T.su (hbn.keeps k) (hbv _ (by decide +kernel)) ⟨by rfl, ?_⟩)
    refine wpAny_loadName_free rfl (look_cls hf2) rfl ⟨_, X₁ _ _ hcell, rfl⟩ ?_
    refine wpAny_loadName_local rfl (look_self f) hns (bl_self hf1 _ _) ?_
    refine ks_wpAny_isType_cls hD1 hD2 ⟨rfl, ?_⟩
    refine ks_wpAny_call_super hD1 hD2 (k _ _ hx) rfl (fun c e => nomatch e) (looks_mroIn X₁ T.mC) (fun h2 hso k2 => ?_)
    have X2 : K.In h2 := X₁.keeps k2
    refine kxs_getMethod kxs_ValueError hso (looks_opaque X2 T.ho) (l₀ := .ref C :: bm) ((looks_clsIn X2 hcl).andThen .now) rfl X2 ?_ ((IY (k2 _ _ (k _ _ hx))).type.andThen (looks_subIn X2 T.hB)) hyC (by decide +kernel) ?_
    · have e := T.si
      unfold ks_superIn at e
      rw [hcl] at e
      exact e
    have k3 : ∀ b o, h2.get? b = some o → (h2.push (kxs_mw "ValueError.__init__" y)).get? b = some o := fun b o e => Heap.get?_push_of_some _ e
    have hu : (h2.push (kxs_mw "ValueError.__init__" y)).get? h2.objs.size = some (kxs_mw "ValueError.__init__" y) := Heap.get?_push_at rfl rfl
    refine kxs_callWith (i := "ValueError.__init__") (x := y) (by rfl) (evalArgs_plain (Calls.spliced_cons (Calls.Constant_str (k := 0) (pos := a4) (Calls.spliced_nil ⟨hu, ?_⟩))))
    refine call_mw (X2.keeps k3 _ _ hC) (k3 _ _ (k2 _ _ (k _ _ hx))) hu (one_size _) fun h4 t1 k4 hy4 => ?_
    have X4 : K.In h4 := kept_but (X2.keeps k3) hnx k4
    have kk : ∀ b o, b ≠ y → h₁.get? b = some o → h4.get? b = some o := fun b o n e => k4 b o n (k3 b o (k2 b o e))
    have n4 : h4.Ns s.heap.objs.size fun z => [(("self" : Str), Value.ref y), (f, v)].reverse.lookup z := by
      obtain ⟨o, es, ep, e1, r⟩ := hns
      exact ⟨o, es, ep, kk _ _ hyL e1, r⟩
    have hfd : (f == ("__debug__" : Str)) = false := by simpa using hf4
    refine wpAt_of_wpAny (wpAny_execs_cons (plainObj_wpAny_Assign_Attribute ?_))
    refine wpAny_Name (wpAny_loadName_local rfl (look_f hf1) n4 (bl_f _ _) ?_) hfd
    refine wpAny_Name (wpAny_loadName_local rfl (look_self f) n4 (bl_self hf1 _ _) ?_) (by decide +kernel)
    refine set_plain X4 (ox := excO C t1) (od := none) ⟨hy4, rfl, rfl, trivial⟩ T.sa ?_
    refine exc_osa X4 hy4 hcl (show refsVE (.ref C :: bm) = true from hbm) rfl T.noN (fun h5 tk5 dx k5 dn dne hx5 hn5 => ?_)
    refine wpAny_execs_nil (hq h5 tk5 dx ⟨fun b o hb e => k5 b o hb (kk b o hb (k b o e)), ⟨_, hx5⟩, ?_, dne, hn5⟩)
    have z1 : s.heap.objs.size < h4.objs.size := n4.lt
    exact Nat.le_of_lt (Nat.lt_of_lt_of_le z1 dn)
/-- an error that was made: the object at e, its own dict at d -/
structure MadeE (h h' : Heap) (e C d : Addr) (f : Str) (v : Value) : Prop where
  keep : ∀ b o, h.get? b = some o → h'.get? b = some o
  new : h.objs.size ≤ e
  obj : ∃ t1 : Addr, h'.get? e = some { cls := .ref C, dict := some d, data := .fields #[.ref t1, .none, .none, .none, .bool false, .none] }
  dbig : h.objs.size ≤ d
  dne : d ≠ e
  ns : h'.Ns1 d (fun z => if z = f then some v else none)
theorem not_in {K : Frag} {h : Heap} {a : Addr} (X : K.In h) (ha : h.objs.size ≤ a) : K.lookup a = none := by
  cases e : K.lookup a with
  | none => rfl
  | some o => exact absurd (Nat.lt_of_lt_of_le (Heap.lt_size (X _ _ e)) ha) (Nat.lt_irrefl _)
theorem err_made (T : ErrTxt prog K mg x f C fI) {v : Value} (X : K.In s.heap) (hlim : s.heap.NoLimit) (hg : s.heap.Ns mainGlobals mg) (hb : ∃ mb, s.heap.Ns builtinsNs mb ∧ ∀ z : Str, z ≠ "__name__" → mb z = bootBuiltins z)
    (hroom : A.depth + 1 < recursionLimit) (hq : ∀ h' tk e d, MadeE s.heap h' e C d f v → R (.ok (.ret (.ref e))) { s with heap := h', toks := tk }) :
    codeAny (model prog w) A (.call (.ref C) ⟨[v], []⟩) R s := by
  obtain ⟨nm, q, N, bs, bm, sn, sub, ab, col, dd, k0, k1, k2, k3, k5, hC, hbm⟩ := T.cls
  obtain ⟨mb, hbn, hbv⟩ := hb
  obtain ⟨hp, g, dr, tk, os⟩ := s
  have k : ∀ b o, hp.get? b = some o → ((hp.push (kdv_tup [v])).push (excO C hp.objs.size)).get? b = some o := fun b o e => Heap.get?_push_of_some _ (Heap.get?_push_of_some _ e)
  have hget : ((hp.push (kdv_tup [v])).push (excO C hp.objs.size)).get? (hp.objs.size + 1) = some (excO C hp.objs.size) := by heap_get
  have hnx : K.lookup (hp.objs.size + 1) = none := not_in X (Nat.le_succ _)
  refine call_own F.excBase_ValueError (fun X => refsVE_contains X bm hbm) (X _ _ hC) (looks_findIn X T.iC) (fun self => bind_fn X self T.tC) (one_size v) ?_
  refine err_init (s := ⟨(hp.push (kdv_tup [v])).push (excO C hp.objs.size), g, dr, tk, os⟩) T (X.keeps k) (hlim.keeps k) (hg.keeps k) ⟨mb, hbn.keeps k, hbv⟩ hget hnx ?_ fun h' tk' dx ⟨k', ⟨t1, hx⟩, dn, dne, hns⟩ => ?_
  · show A.depth + 1 < recursionLimit
    exact hroom
  · have old : ∀ b o, hp.get? b = some o → h'.get? b = some o := fun b o e => k' b o (Nat.ne_of_lt (Nat.lt_succ_of_lt (Heap.lt_size e))) (k b o e)
    have z : hp.objs.size + 1 + 1 ≤ dx := by
      have q := dn
      rw [Heap.size_push, Heap.size_push] at q
      exact q
    exact ⟨rfl, hq h' tk' (hp.objs.size + 1) dx ⟨old, Nat.le_succ _, ⟨t1, hx⟩, Nat.le_trans (Nat.le_trans (Nat.le_succ _) (Nat.le_succ _)) z, dne, hns⟩⟩
end
end EK
namespace L2
open PySem PySem.Spec PyProof.Rows EK
theorem relO_one {f : Str} {v : V} {u : Value} (r : RelV v u) (g : Str) : RelO (List.lookup g [(f, v)]) (if g = f then some u else none) := relO_put (fs := []) (mA := fun _ => none) r (fun _ => True.intro) g
section
variable {X : Cx} {C fI : Addr} {x f : Str}
/-- x(e) as a value: a new error at a, its dict at d -/
def tErrV (C : Addr) (f : Str) (ta : TA) : TE := fun σ H Q => ta σ H fun vs H1 => ∃ v, vs = [v] ∧ ∀ a d, H1 a = none → H1 d = none → d ≠ a → Q (.ref a) (upd (upd H1 d (exd d [(f, v)])) a (exo a C (some d)))
theorem pe_errV {a : Expr} {ta : TA} {p pos : Pos} {k : Nat} (T : ErrTxt X.prog X.K X.mg x f C fI) (hr : Room k X.A) (ha : PA X [a] ta) (hg : Gl X x) (hd : (x == ("__debug__" : Str)) = false := by decide)
    (he : starEach (a :: []) X.env = (false, eval a X.env) :: starEach [] X.env := by rfl) (hpl : (backTo pos (starEach [] X.env)).any (·.1) = false := by rfl) :
    PE X (.Call (.Name x p) [a] [] pos) (tErrV C f ta) := by
  refine ⟨fun pins s σ H Q I h => ?_⟩
  refine wpAny_Call_Name_kw (ld_glob I hg T.gC ?_ hd)
  refine PySem.W.callWith_K (h₀ := X.base) I.ok.mod.kin T.kC (thn (ha.run pos pins s σ H _ I h) fun us s1 hh => ?_) he hpl
  obtain ⟨vs, H1, I1, r1, v, ev, q1⟩ := hh
  subst ev
  refine ⟨I1.kIn, ?_⟩
  cases r1 with
  | cons rv rn =>
    rename_i v' us'
    cases rn
    show wpAny _ _ (call (.ref C) [v']) _ _ _
    have hlim := I1.nolimit
    obtain ⟨hp, g, dr, tk, os⟩ := s1
    obtain ⟨mb, hb1, hb2⟩ := I1.mod.blt
    refine wpAny_call (err_made T I1.kIn hlim (I1.mod.glob.keeps I1.bk) ⟨mb, hb1.keeps I1.bk, hb2⟩ (by have := hr.dp; omega) fun h' tk' e d M => ?_)
    obtain ⟨t1, hoe⟩ := M.obj
    have nd : H1 d = none := I1.hok.fresh M.dbig
    have ne : H1 e = none := I1.hok.fresh M.new
    obtain ⟨G, g1, g2⟩ := restrict h' fun b => decide (b ≠ e)
    have gk : ∀ b, b ≠ e → G.get? b = h'.get? b := fun b hb => g1 b (decide_eq_true hb)
    have ge : G.get? e = none := g2 e (by simp)
    have old : ∀ b o, hp.get? b = some o → G.get? b = some o := fun b o q => (gk b (Nat.ne_of_lt (Nat.lt_of_lt_of_le (Heap.lt_size q) M.new))).trans (M.keep b o q)
    have gs : ∀ b o, G.get? b = some o → h'.get? b = some o := fun b o q => by
      by_cases hbe : b = e
      · rw [hbe, ge] at q
        cases q
      · exact (gk b hbe).symm.trans q
    have J : Inv X pins σ (upd H1 d (exd d [(f, v)])) ⟨G, g, dr, tk', os⟩ := I1.laid (t' := tk') old M.dbig (exd_ok (M.ns.at fun o q => (gk d M.dne).trans q) (relO_one rv))
    have hne : (upd H1 d (exd d [(f, v)])) e = none := by
      rw [upd_ne (Ne.symm M.dne)]
      exact ne
    exact ⟨.ref e, _, J.laidN (t' := tk') gs ge hne (exo_ok hoe), rfl, q1 e d ne nd M.dne⟩
/-- a field of an error, read -/
def tErrF (K : PySem.W.Frag) (f : Str) (te : TE) : TE := fun σ H Q => te σ H fun x H1 => ∃ (a C d : Addr) (fs : List (Str × V)) (v : V), x = .ref a ∧ H1 a = some (exo a C (some d)) ∧ H1 d = some (exd d fs) ∧ XfC K C ∧ PySem.W.findIn K (.ref C) f = some none ∧ fs.lookup f = some v ∧ Q v H1
theorem pe_errF {e : Expr} {te : TE} {pos : Pos} (he : PE X e te) (hb : attributeBase e f X.env (eval e X.env) = eval e X.env := by rfl) : PE X (.Attribute e f pos) (tErrF X.K f te) := by
  refine ⟨fun pins s σ H Q I h => ?_⟩
  refine attr_of hb (thn (he.run pins s σ H _ I h) fun u s1 hh => ?_)
  obtain ⟨y, H1, I1, ry, a, C, d, fs, v, ey, ea, ed, T, hno, l, q⟩ := hh
  subst ey
  obtain rfl : u = Value.ref a := ry
  obtain ⟨t1, ha⟩ := exo_at I1.hok ea
  obtain ⟨mA, hns, hr⟩ := exd_at I1.hok ed
  obtain ⟨od, ho, hl⟩ := lookIn_ns hns
  obtain ⟨u, hu, ru⟩ := RelO.some_of (v := v) (o := mA f) (by rw [← l]; exact hr f)
  have J : PySem.W.InstAt s1.heap a _ C (some od) := ⟨ha, rfl, rfl, ho⟩
  exact HandSPX.exc_get I1.kIn J T.ga T.gg T.exC (PySem.W.findObj_own T.hdC hno rfl (by rw [hl, hu])) (handed_of ru) ⟨v, H1, I1.tok _, ru, q⟩
end
end L2

set_option Elab.async false
set_option linter.all false
set_option maxRecDepth 100000
set_option maxHeartbeats 4000000
/-! EqKit: things that are told equal, whatever they hold; isinstance of errors. -/
namespace L2
open PySem PySem.Spec PyProof.Rows
/-- x and y compare equal, at most n deep: one thing, or lists, tuples of such -/
inductive Sm (K : PySem.W.Frag) (H : Hp) : Nat → V → V → Prop
  | rf {n : Nat} (x : V) (h : ∀ b, x ≠ .flt b) : Sm K H n x x
  | ls {n : Nat} {a b : Addr} {xs ys : List V} (h1 : SqL K H a xs) (h2 : SqL K H b ys) (hl : xs.length = ys.length) (h : ∀ (i : Nat) x y, xs[i]? = some x → ys[i]? = some y → Sm K H n x y) : Sm K H (n + 1) (.ref a) (.ref b)
  | tp {n : Nat} {a b : Addr} {xs ys : List V} (h1 : SqT K H a xs) (h2 : SqT K H b ys) (hl : xs.length = ys.length) (h : ∀ (i : Nat) x y, xs[i]? = some x → ys[i]? = some y → Sm K H n x y) : Sm K H (n + 1) (.ref a) (.ref b)
section
variable {X : Cx} {pins : List (Addr × Obj)} {σ : St} {H : Hp} {s : Shared}
theorem sm_items {xs ys : List V} {us vs : List Value} {A : Around} (rx : Vals xs us) (ry : Vals ys vs)
    (h : ∀ (i : Nat) x y, xs[i]? = some x → ys[i]? = some y → ∀ u v, RelV x u → RelV y v → SeqAt.EqAt A s u v true) :
    ∀ j (h1 : j < us.toArray.size) (h2 : j < vs.toArray.size), SeqAt.EqAt A s us.toArray[j] vs.toArray[j] true := by
  intro j h1 h2
  have l1 := rx.length
  have l2 := ry.length
  have j1 : j < xs.length := by rw [l1]; simpa using h1
  have j2 : j < ys.length := by rw [l2]; simpa using h2
  obtain ⟨u, e1, r1⟩ := rx.get (List.getElem?_eq_getElem j1)
  obtain ⟨v, e2, r2⟩ := ry.get (List.getElem?_eq_getElem j2)
  have f1 : us.toArray[j] = u := by
    have q : us[j]? = some (us[j]'(by simpa using h1)) := List.getElem?_eq_getElem _
    rw [e1] at q
    simpa using (Option.some.inj q).symm
  have f2 : vs.toArray[j] = v := by
    have q : vs[j]? = some (vs[j]'(by simpa using h2)) := List.getElem?_eq_getElem _
    rw [e2] at q
    simpa using (Option.some.inj q).symm
  rw [f1, f2]
  exact h j _ _ (List.getElem?_eq_getElem j1) (List.getElem?_eq_getElem j2) u v r1 r2
theorem all_true {n : Nat} : ((List.range n).all fun _ => true) = true := by
  induction n with
  | zero => rfl
  | succ n ih => simp
theorem sm_at (I : Inv X pins σ H s) : ∀ {n : Nat} {x y : V} {u v : Value} {A : Around}, Sm X.K H n x y → RelV x u → RelV y v → A.units + n < cLine → SeqAt.EqAt A s u v true := by
  intro n x y u v A h
  induction h generalizing u v A with
  | rf x hf =>
    intro r1 r2 _
    cases x with
    | non => cases r1; cases r2; exact .same _
    | bl b => cases r1; cases r2; exact .same _
    | int i =>
      obtain ⟨t, rfl⟩ := r1
      obtain ⟨t', rfl⟩ := r2
      have q := SeqAt.EqAt.int_int (A := A) (s := s) i t i t'
      rw [beq_self_eq_true] at q
      exact q
    | str z =>
      obtain ⟨t, rfl⟩ := r1
      obtain ⟨t', rfl⟩ := r2
      have q := SeqAt.EqAt.str_str (A := A) (s := s) z t z t'
      rw [beq_self_eq_true] at q
      exact q
    | byt b =>
      obtain ⟨t, rfl⟩ := (show ∃ t, u = Value.bytes b t from r1)
      obtain ⟨t', rfl⟩ := (show ∃ t, v = Value.bytes b t from r2)
      exact fun prog w E Q h => PySem.W.eqBool_bytes (by simpa using h)
    | flt b => exact absurd rfl (hf b)
    | ref a => cases r1; cases r2; exact .same _
    | ty n => cases r1; cases r2; exact .same _
  | @ls n a b xs ys h1 h2 hl _ ih =>
    intro r1 r2 hu
    cases r1; cases r2
    by_cases e : a = b
    · rw [e]; exact .same _
    · obtain ⟨us, ru, ⟨o, m, ho, hc, _, hd⟩, _⟩ := I.list h1
      obtain ⟨vs, rv, ⟨o', m', ho', hc', _, hd'⟩, _⟩ := I.list h2
      have hs : us.toArray.size = vs.toArray.size := by simp only [List.size_toArray]; rw [← ru.length, ← rv.length, hl]
      refine .of_refs e ?_
      have q := SeqAt.RcAt.lists (A := A) (s := s) (e := fun _ => true) ⟨o, ho, hc, m, hd⟩ ⟨o', ho', hc', m', hd'⟩ hs (by omega) (sm_items (A := A.in1) ru rv fun i x y e1 e2 u v s1 s2 => ih i x y e1 e2 s1 s2 (by show A.units + 1 + n < cLine; omega))
      rw [all_true] at q
      exact q
  | @tp n a b xs ys h1 h2 hl _ ih =>
    intro r1 r2 hu
    cases r1; cases r2
    by_cases e : a = b
    · rw [e]; exact .same _
    · obtain ⟨us, ru, ⟨o, ho, hc, m, hd⟩, _⟩ := I.tuple h1
      obtain ⟨vs, rv, ⟨o', ho', hc', m', hd'⟩, _⟩ := I.tuple h2
      have hs : us.toArray.size = vs.toArray.size := by simp only [List.size_toArray]; rw [← ru.length, ← rv.length, hl]
      refine .of_refs e ?_
      have q := SeqAt.RcAt.tuples (A := A) (s := s) (e := fun _ => true) ⟨o, ho, hc, m, hd⟩ ⟨o', ho', hc', m', hd'⟩ (by omega) (sm_items (A := A.in1) ru rv fun i x y e1 e2 u v s1 s2 => ih i x y e1 e2 s1 s2 (by show A.units + 1 + n < cLine; omega))
      rw [all_true, hs, beq_self_eq_true] at q
      exact q
/-- what may stand on both sides of a comparison that is told equal -/
inductive SmT (K : PySem.W.Frag) (H : Hp) : V → V → Prop
  | sc (x : V) (h : scal x x = true) : SmT K H x x
  | ls {a b : Addr} {xs ys : List V} (h1 : SqL K H a xs) (h2 : SqL K H b ys) (hl : xs.length = ys.length) (h : ∀ (i : Nat) x y, xs[i]? = some x → ys[i]? = some y → Sm K H 60 x y) : SmT K H (.ref a) (.ref b)
  | tp {a b : Addr} {xs ys : List V} (h1 : SqT K H a xs) (h2 : SqT K H b ys) (hl : xs.length = ys.length) (h : ∀ (i : Nat) x y, xs[i]? = some x → ys[i]? = some y → Sm K H 60 x y) : SmT K H (.ref a) (.ref b)
  | dk {a b : Addr} {kvs : List (Key × V)} (h1 : H a = some (.dK kvs)) (h2 : H b = some (.dK kvs)) (nd : (kvs.map (·.1)).Nodup) (fl : ∀ p ∈ kvs, flatB p.2 = true) : SmT K H (.ref a) (.ref b)
theorem op_neS (hu : X.A.units + 64 < cLine) : OpR X (compareOp .NotEq) (fun x y H Q => SmT X.K H x y ∧ Q (.bl false) H) := by
  intro pins s σ H x y v u Q I rx ry ⟨h, q⟩
  cases h with
  | sc x h => exact op_ne pins s σ H x x v u Q I rx ry ⟨h, by rw [decide_eq_true rfl]; exact q⟩
  | ls h1 h2 hl h =>
    cases rx; cases ry
    obtain ⟨us, ru, ⟨o, m, ho, hc, _, hd⟩, _⟩ := I.list h1
    obtain ⟨vs, rv, ⟨o', m', ho', hc', _, hd'⟩, _⟩ := I.list h2
    have hs : us.toArray.size = vs.toArray.size := by simp only [List.size_toArray]; rw [← ru.length, ← rv.length, hl]
    have z := SeqAt.RcNeAt.lists (A := X.A) (s := s) (e := fun _ => true) ⟨o, ho, hc, m, hd⟩ ⟨o', ho', hc', m', hd'⟩ hs (by omega) (sm_items (A := X.A.in1) ru rv fun i x y e1 e2 u v s1 s2 => sm_at I (h i x y e1 e2) s1 s2 (by show X.A.units + 1 + 60 < cLine; omega))
    rw [all_true] at z
    exact z X.prog X.w _ _ ⟨.bl false, H, I, rfl, q⟩
  | tp h1 h2 hl h =>
    cases rx; cases ry
    obtain ⟨us, ru, ⟨o, ho, hc, m, hd⟩, _⟩ := I.tuple h1
    obtain ⟨vs, rv, ⟨o', ho', hc', m', hd'⟩, _⟩ := I.tuple h2
    have hs : us.toArray.size = vs.toArray.size := by simp only [List.size_toArray]; rw [← ru.length, ← rv.length, hl]
    have z := SeqAt.RcNeAt.tuples (A := X.A) (s := s) (e := fun _ => true) ⟨o, ho, hc, m, hd⟩ ⟨o', ho', hc', m', hd'⟩ (by omega) (sm_items (A := X.A.in1) ru rv fun i x y e1 e2 u v s1 s2 => sm_at I (h i x y e1 e2) s1 s2 (by show X.A.units + 1 + 60 < cLine; omega))
    rw [all_true, hs, beq_self_eq_true] at z
    exact z X.prog X.w _ _ ⟨.bl false, H, I, rfl, q⟩
  | @dk a b kvs h1 h2 nd fl =>
    cases rx; cases ry
    obtain ⟨_, ya, va, ra, da⟩ := (show ObjOk X.prog X.w H s.heap a (.dK kvs) from I.hok a _ h1)
    obtain ⟨_, yb, vb, rb, db⟩ := (show ObjOk X.prog X.w H s.heap b (.dK kvs) from I.hok b _ h2)
    have hl : va.length = vb.length := ra.length.symm.trans rb.length
    exact PySem.W.keq_ne (knd := mixKind X.prog X.w) (r := true) ya yb da db (by omega) (fun _ => hits_all rb ra fun p hp => ⟨val_nodup nd p hp, fl p hp⟩) (fin_bl I q (by simp [hl]))
theorem op_eqS (hu : X.A.units + 64 < cLine) : OpR X (compareOp .Eq) (fun x y H Q => SmT X.K H x y ∧ Q (.bl true) H) := by
  intro pins s σ H x y v u Q I rx ry ⟨h, q⟩
  cases h with
  | sc x h => exact op_eq pins s σ H x x v u Q I rx ry ⟨h, by rw [decide_eq_true rfl]; exact q⟩
  | ls h1 h2 hl h =>
    cases rx; cases ry
    obtain ⟨us, ru, ⟨o, m, ho, hc, _, hd⟩, _⟩ := I.list h1
    obtain ⟨vs, rv, ⟨o', m', ho', hc', _, hd'⟩, _⟩ := I.list h2
    have hs : us.toArray.size = vs.toArray.size := by simp only [List.size_toArray]; rw [← ru.length, ← rv.length, hl]
    have z := SeqAt.RcAt.lists (A := X.A) (s := s) (e := fun _ => true) ⟨o, ho, hc, m, hd⟩ ⟨o', ho', hc', m', hd'⟩ hs (by omega) (sm_items (A := X.A.in1) ru rv fun i x y e1 e2 u v s1 s2 => sm_at I (h i x y e1 e2) s1 s2 (by show X.A.units + 1 + 60 < cLine; omega))
    rw [all_true] at z
    exact z X.prog X.w _ _ ⟨.bl true, H, I, rfl, q⟩
  | tp h1 h2 hl h =>
    cases rx; cases ry
    obtain ⟨us, ru, ⟨o, ho, hc, m, hd⟩, _⟩ := I.tuple h1
    obtain ⟨vs, rv, ⟨o', ho', hc', m', hd'⟩, _⟩ := I.tuple h2
    have hs : us.toArray.size = vs.toArray.size := by simp only [List.size_toArray]; rw [← ru.length, ← rv.length, hl]
    have z := SeqAt.RcAt.tuples (A := X.A) (s := s) (e := fun _ => true) ⟨o, ho, hc, m, hd⟩ ⟨o', ho', hc', m', hd'⟩ (by omega) (sm_items (A := X.A.in1) ru rv fun i x y e1 e2 u v s1 s2 => sm_at I (h i x y e1 e2) s1 s2 (by show X.A.units + 1 + 60 < cLine; omega))
    rw [all_true, hs, beq_self_eq_true] at z
    exact z X.prog X.w _ _ ⟨.bl true, H, I, rfl, q⟩
  | @dk a b kvs h1 h2 nd fl =>
    exact op_eq_dict (by omega) pins s σ H _ _ v u Q I rx ry ⟨a, b, kvs, rfl, rfl, h1, h2, nd, fl, q⟩
/-- isinstance(e, c), e an error that is held as a value -/
def rIsErr (K : PySem.W.Frag) : List V → Hp → VK → Prop := fun xs H Q => ∃ (a C : Addr) (d : Option Addr) (fs : List (Str × V)) (c : V) (u : Value) (b : Bool), xs = [.ref a, c] ∧ H a = some (exo a C d) ∧ (∀ dd, d = some dd → H dd = some (exd dd fs)) ∧ ExcC K C ∧ ClsV c u ∧ PySem.W.kitOne K (.ref C) u = some b ∧ Q (.bl b) H
theorem call_isErr : CallR X (.builtin "isinstance") (rIsErr X.K) := by
  intro pins s σ H xs us Q I r h
  obtain ⟨a, C, d, fs, c, u, b, rfl, ea, ed, T, k, e, q⟩ := h
  obtain ⟨u1, u2, rfl, r1, r2⟩ := vals2 r
  have e2 := k.eq r2
  subst e2
  cases r1
  obtain ⟨t1, ha⟩ := exo_at I.hok ea
  have hcl : (PySem.W.clsIn X.K C).isSome = true := by
    obtain ⟨cd, hc, _⟩ := PySem.W.any_some T.hd
    rw [hc]
    rfl
  cases d with
  | none => exact PySem.W.kia_one (PySem.W.kitx_exc (od := none) hcl T.hg T.hk T.hs T.ha T.hn T.ht T.hm) I.kIn (show PySem.W.InstAt s.heap a _ C none from ⟨ha, rfl, rfl, trivial⟩) e (fun z => nomatch z) fun tk => ⟨.bl b, H, I.tok tk, rfl, q⟩
  | some dd =>
    obtain ⟨mA, ⟨od, es, ep, ho, hr⟩, _⟩ := exd_at I.hok (ed dd rfl)
    exact PySem.W.kia_one (PySem.W.kitx_exc (od := some od) hcl T.hg T.hk T.hs T.ha T.hn T.ht T.hm) I.kIn (show PySem.W.InstAt s.heap a _ C (some od) from ⟨ha, rfl, rfl, ho⟩) e (fun z => nomatch z) fun tk => ⟨.bl b, H, I.tok tk, rfl, q⟩
end
end L2

set_option Elab.async false
set_option linter.all false
set_option maxRecDepth 100000
set_option maxHeartbeats 4000000
namespace T21
open PySem L2
def top (i : Nat) : Stmt := PySem.Challenge.pw_turnindex_k21_whole_orders_of_all_texts.main.body.getD i (.Pass ⟨0, 0, 0, 0⟩)
abbrev sIsText : Stmt := top 8
abbrev sIsNum : Stmt := top 9
abbrev sIsNB : Stmt := top 10
abbrev sIsOrd : Stmt := top 11
abbrev sCkText : Stmt := top 12
abbrev sCkNB : Stmt := top 13
abbrev sCkOrd : Stmt := top 14
abbrev sOrderOf : Stmt := top 16
abbrev sDrops : Stmt := top 17
abbrev sLeastT : Stmt := top 18
abbrev sOrdN : Stmt := top 19
abbrev sHas : Stmt := top 20
abbrev sRanks : Stmt := top 21
abbrev sUrn : Stmt := top 23
abbrev sPull : Stmt := top 24
abbrev sLess : Stmt := top 25
abbrev sOrder : Stmt := top 26
abbrev sTexts : Stmt := top 27
abbrev sAll : Stmt := top 28
abbrev sGrown : Stmt := top 29
abbrev sRight : Stmt := top 30
abbrev sLaw : Stmt := top 31
/-- an urn of draws: its own digits left, its number, how often it was asked -/
def UrnAt (H : Hp) (a : Addr) (n : Int) : Prop := ∃ w0 w1 w2 : Int, H a = some (.lst [.int w0, .int w1, .int w2]) ∧ 0 ≤ w1 ∧ w1 < 2147483563 ∧ 0 ≤ w2 ∧ w2 ≤ n
def KeepB (a : Addr) (H H' : Hp) : Prop := ∀ b o, H b = some o → b ≠ a → H' b = some o
theorem KeepB.trans {a : Addr} {H H1 H2 : Hp} (s : KeepB a H H1) (t : KeepB a H1 H2) : KeepB a H H2 := fun b o e n => t b o (s b o e n) n
def spUrn : Sp := fun vs H Q _ => ∃ c : Int, vs = [.int c] ∧ ∀ p H', H p = none → UrnAt H' p 0 → Same H H' → Q (.ref p) H'
def spPull : Sp := fun vs H Q _ => ∃ (a : Addr) (m n : Int), vs = [.ref a, .int m] ∧ UrnAt H a n ∧ n ≤ 1000000 ∧ 0 < m ∧ m < 1073741824 ∧ ∀ (d : Int) H', 0 ≤ d → d < m → UrnAt H' a (n + 1) → KeepB a H H' → Q (.int d) H'
structure TxtU (K : PySem.W.Frag) (mg : Str → Option Value) : Prop where
  int : mg "int" = none
  abs : mg "abs" = none
section
variable {P : Program} {w : World} {K : PySem.W.Frag} {mg : Str → Option Value} {base : Heap}
theorem scUrn : FnScope ["_law_cell"] ["_law_cell"] (defScope sUrn) := ⟨rfl, rfl, rfl, by decide +kernel, rfl, by decide +kernel, by decide +kernel⟩
theorem ok_urn {f : Addr} {fd : FuncData} (F : Fun K "_law_urn" "_law_urn" sUrn f fd) (T : TxtU K mg) : FnOk P w K mg base CX0 1 f fd ["_law_cell"] spUrn := by
  refine F.ok scUrn (fun vs H Q E h => ?_) (fun cdv A outer s H vs Q E hr h => ?_)
  · obtain ⟨c, rfl, _⟩ := h
    rfl
  · obtain ⟨c, rfl, k⟩ := h
    refine ⟨_, (pss_one (ps_ret (pe_lst (pa_cons (pe_ifExp (pt_cmpR op_ge (pe_callB call_abs (by rfl) T.abs (by decide +kernel) (pa_cons (pv 0) pa_nil)) (pe_op op_pow pe_int pe_int) (nomark _)) (pe_callB call_abs (by rfl) T.abs (by decide +kernel) (pa_cons (pv 0) pa_nil)) pe_int) (pa_cons (pe_op op_mod (pe_callTy call_int1 (by rfl) T.int (by decide +kernel) (pa_cons (pv 0) pa_nil)) pe_int) (pa_cons pe_int pa_nil)))))), ?_⟩
    refine ⟨_, rfl, _, rfl, _, _, rfl, rfl, ⟨by decide, by decide, by decide⟩, _, _, rfl, rfl, _, rfl, ?_⟩
    have fin : ∀ w0 : Int, ∃ v, (some (some (V.int c)) : Option (Option V)) = some (some v) ∧ ((∃ i, [v] = [V.int i] ∧ ∃ i_1 j, V.int i = .int i_1 ∧ V.int 2147483563 = .int j ∧ 0 < j ∧ [V.int w0, .int (i_1 % j), .int 0].length ≤ sizeLine ∧ ∀ p, H p = none → Q (.ref p) (upd H p (.lst [V.int w0, .int (i_1 % j), .int 0])))) := fun w0 =>
      ⟨_, rfl, _, rfl, _, _, rfl, rfl, (by decide), (by show 3 ≤ sizeLine; decide), fun p hp => k p _ hp ⟨_, _, _, upd_same, Int.emod_nonneg _ (by decide), Int.emod_lt_of_pos _ (by decide), by decide, by decide⟩ fun b o e => by rw [upd_ne (ne_of_none e hp)]; exact e⟩
    refine ite2 (fun h0 => ?_) (fun h0 => ?_)
    · refine ⟨_, rfl, _, rfl, ?_⟩
      obtain ⟨v, e, i, ev, i1, j, e1, e2, h1, h2, h3⟩ := fin (if c < 0 then -c else c)
      exact ⟨_, rfl, .inl ⟨_, rfl, _, _, rfl, rfl, (by show (0 : Int) < 2147483563; decide), (by show 3 ≤ sizeLine; decide), fun p hp => k p _ hp ⟨_, _, _, upd_same, Int.emod_nonneg _ (by decide), Int.emod_lt_of_pos _ (by decide), by decide, by decide⟩ fun b o e => by rw [upd_ne (ne_of_none e hp)]; exact e⟩⟩
    · exact ⟨_, rfl, .inl ⟨_, rfl, _, _, rfl, rfl, (by show (0 : Int) < 2147483563; decide), (by show 3 ≤ sizeLine; decide), fun p hp => k p _ hp ⟨_, _, _, upd_same, Int.emod_nonneg _ (by decide), Int.emod_lt_of_pos _ (by decide), by decide, by decide⟩ fun b o e => by rw [upd_ne (ne_of_none e hp)]; exact e⟩⟩
theorem scPull : FnScope ["_law_urn_here", "_law_many", "_law_found", "_law_mixed"] ["_law_urn_here", "_law_many"] (defScope sPull) := ⟨rfl, rfl, rfl, by decide +kernel, rfl, by decide +kernel, by decide +kernel⟩
theorem ok_pull {f : Addr} {fd : FuncData} (F : Fun K "_law_pull" "_law_pull" sPull f fd) (T : TxtU K mg) : FnOk P w K mg base CX0 1 f fd ["_law_urn_here", "_law_many"] spPull := by
  refine F.ok scPull (fun vs H Q E h => ?_) (fun cdv A outer s H vs Q E hr h => ?_)
  · obtain ⟨a, m, n, rfl, _⟩ := h
    rfl
  · obtain ⟨a, m, n, rfl, ⟨w0, w1, w2, ha, h1, h2, h3, h4⟩, hn, hm, hm2, k⟩ := h
    have nd := scPull.nd
    refine ⟨_, (pss_cons (ps_if (pt_cmpR op_gt (pe_ix ix_list (pv 0) pe_int (fun _ _ => rfl)) pe_int (nomark _)) (pss_cons (ps_set (i := 2) nd rfl (Or.inl rfl) (pe_op op_mod (pe_callTy call_int1 (by rfl) T.int (by decide +kernel) (pa_cons (pe_ix ix_list (pv 0) pe_int (fun _ _ => rfl)) pa_nil)) (pv 1)))
      (pss_cons (ps_asg (pe_op op_fdiv (pe_ix ix_list (pv 0) pe_int (fun _ _ => rfl)) (pv 1)) (pg_sub (pv 0) pe_int set_list))
      (pss_one (ps_ret (pv 2))))) pss_nil)
      (pss_cons (ps_asg (pe_op op_add (pe_ix ix_list (pv 0) pe_int (fun _ _ => rfl)) pe_int) (pg_sub (pv 0) pe_int set_list))
      (pss_cons (ps_set (i := 3) nd rfl (Or.inl rfl) (pe_op op_mod (pe_callTy call_int1 (by rfl) T.int (by decide +kernel) (pa_cons (pe_op op_add (pe_op op_add (pe_op op_mul (pe_ix ix_list (pv 0) pe_int (fun _ _ => rfl)) pe_int) (pe_op op_mul (pe_ix ix_list (pv 0) pe_int (fun _ _ => rfl)) pe_int)) pe_int) pa_nil)) pe_int))
      (pss_cons (ps_set (i := 3) nd rfl (Or.inl rfl) (pe_op op_mod (pe_callTy call_int1 (by rfl) T.int (by decide +kernel) (pa_cons (pe_op op_mul (pv 3) (pe_op op_add (pe_op op_fdiv (pv 3) pe_int) pe_int)) pa_nil)) pe_int))
      (pss_cons (ps_set (i := 3) nd rfl (Or.inl rfl) (pe_op op_mod (pe_callTy call_int1 (by rfl) T.int (by decide +kernel) (pa_cons (pe_op op_mul (pv 3) (pe_op op_add (pe_op op_fdiv (pv 3) pe_int) pe_int)) pa_nil)) pe_int))
      (pss_one (ps_ret (pe_op op_mod (pe_callTy call_int1 (by rfl) T.int (by decide +kernel) (pa_cons (pe_op op_fdiv (pv 3) pe_int) pa_nil)) (pv 1))))))))), ?_⟩
    refine ⟨_, rfl, a, _, 0, _, rfl, rfl, .of ha, rfl, _, _, rfl, rfl, _, rfl, ?_⟩
    refine ite2 (fun h0 => ?_) (fun h0 => ?_)
    · refine ⟨_, rfl, a, _, 0, _, rfl, rfl, .of ha, rfl, .inl ⟨_, rfl, _, rfl, _, _, rfl, rfl, hm, ?_⟩⟩
      refine ⟨_, rfl, a, _, 0, _, rfl, rfl, .of ha, rfl, _, rfl, _, _, rfl, rfl, ⟨hm, hm2⟩, _, rfl, a, _, 0, 0, rfl, rfl, ha, rfl, _, rfl, ?_⟩
      refine k _ _ (Int.emod_nonneg _ (by omega)) (Int.emod_lt_of_pos _ hm) ⟨_, _, _, upd_same, h1, h2, h3, by omega⟩ fun b o e n => ?_
      rw [upd_ne n]
      exact e
    · refine ⟨_, rfl, a, _, 2, _, rfl, rfl, .of ha, rfl, _, _, rfl, rfl, _, rfl, a, _, 2, 2, rfl, rfl, ha, rfl, ?_⟩
      have ha2 : (upd H a (.lst ([V.int w0, V.int w1, V.int w2].set 2 (V.int (w2 + 1))))) a = some (.lst [.int w0, .int w1, .int (w2 + 1)]) := upd_same
      refine ⟨_, rfl, a, _, 1, _, rfl, rfl, .of ha2, rfl, _, _, rfl, rfl, .inl ⟨by omega, by omega⟩, _, rfl, a, _, 2, _, rfl, rfl, .of ha2, rfl, _, _, rfl, rfl, .inl ⟨by omega, by omega⟩, _, _, rfl, rfl, _, _, rfl, rfl, .inl ⟨_, rfl, _, _, rfl, rfl, (by show (0 : Int) < 2147483647; decide), ?_⟩⟩
      have g0 := Int.emod_nonneg (w1 * 48619 + (w2 + 1) * 999979 + 60611) (show (2147483647 : Int) ≠ 0 by decide)
      have g1 := Int.emod_lt_of_pos (w1 * 48619 + (w2 + 1) * 999979 + 60611) (show (0 : Int) < 2147483647 by decide)
      generalize (w1 * 48619 + (w2 + 1) * 999979 + 60611) % 2147483647 = x1 at g0 g1
      refine ⟨_, rfl, _, rfl, _, _, rfl, rfl, ⟨by decide, by decide⟩, _, _, rfl, rfl, _, _, rfl, rfl, .inl ⟨by omega, by omega⟩, .inl ⟨_, rfl, _, _, rfl, rfl, (by show (0 : Int) < 2147483629; decide), ?_⟩⟩
      have g2 := Int.emod_nonneg (x1 * (x1 / 1021 + 52081)) (show (2147483629 : Int) ≠ 0 by decide)
      have g3 := Int.emod_lt_of_pos (x1 * (x1 / 1021 + 52081)) (show (0 : Int) < 2147483629 by decide)
      refine ⟨_, rfl, _, rfl, _, _, rfl, rfl, ⟨by decide, by decide⟩, _, _, rfl, rfl, _, _, rfl, rfl, .inl ⟨by omega, by omega⟩, .inl ⟨_, rfl, _, _, rfl, rfl, (by show (0 : Int) < 2147483563; decide), ?_⟩⟩
      refine ⟨_, rfl, _, _, rfl, rfl, ⟨by decide, by decide⟩, .inl ⟨_, rfl, _, rfl, _, _, rfl, rfl, hm, ?_⟩⟩
      refine k _ _ (Int.emod_nonneg _ (by omega)) (Int.emod_lt_of_pos _ hm) ⟨_, _, _, ha2, h1, h2, by omega, by omega⟩ fun b o e n => ?_
      rw [upd_ne n]
      exact e
end
end T21

set_option Elab.async false
set_option linter.all false
set_option maxRecDepth 100000
set_option maxHeartbeats 4000000
/-! RangeKit: tuple(range(a, b, c)); set(t) of a tuple of ints as a value. -/
namespace L2
open PySem PySem.Spec PyProof.Rows
section
variable {X : Cx} {a b c : Expr} {ta : TA}
/-- n ints from i on, c from one to the next -/
def rgC (i c : Int) (n : Nat) : List Int := (List.range n).map fun k => i + (k : Nat) * c
def tTupRg3 (ta : TA) : TE := fun σ H Q => ta σ H fun vs H1 => ∃ (i j c : Int) (n : Nat), vs = [.int i, .int j, .int c] ∧ RgC i j c n ∧ n ≤ 2 ^ 24 ∧ ∀ q, H1 q = none → Q (.ref q) (upd H1 q (.tup ((rgC i c n).map V.int)))
theorem pe_tupRg3 {p pos p2 pos2 : Pos} (hc : X.calm = true) (hg : Gl X "tuple") (hm : X.mg "tuple" = none) (hg2 : Gl X "range") (hm2 : X.mg "range" = none) (ha : PA X [a, b, c] ta)
    (hs : starEach [a, b, c] X.env = (false, eval a X.env) :: starEach [b, c] X.env := by rfl) (hpl : (backTo pos2 (starEach [b, c] X.env)).any (·.1) = false := by rfl)
    (na : starEach [.Call (.Name "range" p2) [a, b, c] [] pos2] X.env = (false, eval (.Call (.Name "range" p2) [a, b, c] [] pos2) X.env) :: starEach [] X.env := by rfl) :
    PE X (.Call (.Name "tuple" p) [.Call (.Name "range" p2) [a, b, c] [] pos2] [] pos) (tTupRg3 ta) := by
  refine ⟨fun pins s σ H Q I h => ?_⟩
  refine Call_ (ld_blt I hg hm boot_tuple (PyProof.Rows.callWith_type1 (args_cons (Call_ (ld_blt I hg2 hm2 boot_range (PyProof.Rows.callWith_type1 (thn (ha.run pos2 pins s σ H _ I h) fun us s1 ⟨vs, H1, I1, r1, q1⟩ => ?_) hs hpl))) na) na))
  obtain ⟨i, j, k, n, rfl, ⟨hc0, hcn, hsm, hsz⟩, hn, q⟩ := q1
  cases r1 with
  | cons ri r2 =>
  cases r2 with
  | cons rj r3 =>
  cases r3 with
  | cons rk r4 =>
  cases r4
  obtain ⟨t1, rfl⟩ := ri
  obtain ⟨t2, rfl⟩ := rj
  obtain ⟨t3, rfl⟩ := rk
  refine call_range_3 hc0 (args_nil ?_) (hp := Or.inl ?_)
  · have hr : IsRange (s1.heap.push { cls := .type "range", data := .fields #[.int i t1, .int j t2, .int k t3] }) s1.heap.objs.size i j k t1 t2 t3 := IsRange.new _ _ _ _ _ _ _
    have I2 : Inv X pins σ H1 { s1 with heap := s1.heap.push { cls := .type "range", data := .fields #[.int i t1, .int j t2, .int k t3] } } := I1.kept (t' := s1.toks) fun b u e => Heap.get?_push_of_some _ e
    refine call_tuple_range (s := { s1 with heap := s1.heap.push { cls := .type "range", data := .fields #[.int i t1, .int j t2, .int k t3] } }) (n := n) (I2.ok.hd hc) hr hsm hsz hn fun h' tk acc hk hi => ?_
    have I3 : Inv X pins σ H1 { s1 with heap := h', toks := tk } := I2.kept hk
    refine ⟨.ref h'.objs.size, upd H1 h'.objs.size (.tup ((rgC i k n).map V.int)), I3.laid (t' := tk) (fun c o e => Heap.get?_push_of_some _ e) (Nat.le_refl _) (show ObjOk X.prog X.w _ _ _ (.tup ((rgC i k n).map V.int)) from ⟨?_, acc.toList, ?_, ?_⟩), rfl, q _ (I3.hok.fresh (Nat.le_refl _))⟩
    · unfold rgC
      rw [List.length_map, List.length_map, List.length_range, sizeLine_eq]
      omega
    · have e : acc.toList.length = n := by rw [Array.length_toList]; exact hi.1
      unfold rgC
      rw [List.map_map, ← e]
      refine vals_of_get acc.toList _ fun m u hj => ?_
      obtain ⟨t, rfl⟩ := hi.2 m u (by rw [← hj, Array.getElem?_toList])
      exact ⟨t, rfl⟩
    · rw [Array.toArray_toList]
      exact IsTup.new _ _
  · exact PyProof.noPylong_small (by omega)
/-- set(t) of a tuple of ints -/
def rSetI (K : PySem.W.Frag) (w : World) : List V → Hp → VK → Prop := fun xs H Q => ∃ (p : Addr) (ns : List Int), xs = [.ref p] ∧ SqT K H p (ns.map V.int) ∧ ns.length ≤ 1000 ∧
  ∀ (q : Addr) (m : Nat), m ≤ ns.length → H q = none → Q (.ref q) (upd H q (SetO w q (fun j => decide (j ∈ ns)) m))
theorem cr_setI (hc : X.calm = true) : CallR X (.type "set") (rSetI X.K X.w) := by
  intro pins s σ H xs us Q I r h
  obtain ⟨p0, ns, rfl, hq, hl, q⟩ := h
  obtain ⟨u, rfl, ru⟩ := vals1 r
  obtain rfl : u = Value.ref p0 := ru
  obtain ⟨its, rv, pt, hz⟩ := I.tuple hq
  have hi : IntsAre its.toArray.toList ns := ints_of_vals rv
  refine call_set_tupI ns (I.ok.hd hc) (show s.heap.IsTuple p0 its.toArray from pt) hi (by unfold scanBound; omega) fun h' tk c R1 hcn k => ?_
  exact ⟨.ref _, upd H s.heap.objs.size (SetO X.w s.heap.objs.size (fun j => decide (j ∈ ns)) c), I.laid (t' := tk) k (Nat.le_refl _) (setO_new R1), rfl, q _ _ hcn (I.hok.fresh (Nat.le_refl _))⟩
end
end L2
namespace L2
open PySem PySem.Spec PyProof.Rows
theorem RgC.up {i j c : Int} (hc : 0 < c) (hc2 : c < 1073741824) (h1 : 0 ≤ i) (h2 : i ≤ 1073741824) (h3 : 0 ≤ j) (h4 : j ≤ 1073741824) : RgC i j c (Builtin.Range.rangeSize i j c).toNat := by
  refine ⟨by omega, by omega, ?_, PyProof.Rows.rangeSize_toNat i j c⟩
  have hn := PyProof.Rows.rangeSize_toNat i j c
  have hl := PyProof.Rows.rangeSize_toNat_le i j c
  unfold Builtin.Range.small
  simp only [Builtin.Range.rangeFitsLong, Bool.and_eq_true, Bool.or_eq_true, decide_eq_true_eq, beq_iff_eq, show c > 0 from hc, if_true]
  omega
/-- zip(t, u) of tuples -/
theorem walk_zipT {K : PySem.W.Frag} {a b : Addr} {xs ys : List V} {n : Nat} (hn : n = min xs.length ys.length) : Walk (RZ.ItzT K a b) n (fun H => SqT K H a xs ∧ SqT K H b ys) (YPair (fun i => xs[i]?) (fun i => ys[i]?)) := by
  subst hn
  refine ⟨fun i _ hi q => ?_, fun _ q => ⟨xs, ys, q.1, q.2, by omega⟩, fun i H v H' _ q y => ?_⟩
  · have h1 : i < xs.length := by omega
    have h2 : i < ys.length := by omega
    exact ⟨xs, ys, xs[i], ys[i], q.1, q.2, by simp [h1], by simp [h2]⟩
  · obtain ⟨T, x, z, h1, h2, h3, h4, h5⟩ := y
    exact ⟨T, x, z, h1, h2, h3, h4 xs q.1, h5 ys q.2⟩
end L2

set_option Elab.async false
set_option linter.all false
set_option maxRecDepth 100000
set_option maxHeartbeats 4000000
namespace L2
open PySem EK
theorem alloc {H : Hp} {p : Addr} {o : HO} (hp : H p = none) : ∃ H1, upd H p o = H1 ∧ Same H H1 ∧ H1 p = some o :=
  ⟨_, rfl, fun b u e => by rw [upd_ne (ne_of_none e hp)]; exact e, upd_same⟩
/-- an error of the class at C stands at a, its one value v -/
def ErrAt (H : Hp) (a d C : Addr) (f : Str) (v : V) : Prop := H a = some (exo a C (some d)) ∧ H d = some (exd d [(f, v)])
theorem ErrAt.keep {H H' : Hp} {a d C : Addr} {f : Str} {v : V} (e : ErrAt H a d C f v) (s : Same H H') : ErrAt H' a d C f v := ⟨s _ _ e.1, s _ _ e.2⟩
theorem alloc_err {H : Hp} {a d C : Addr} {f : Str} {v : V} (ha : H a = none) (hd : H d = none) (hne : d ≠ a) : ∃ H1, upd (upd H d (exd d [(f, v)])) a (exo a C (some d)) = H1 ∧ Same H H1 ∧ ErrAt H1 a d C f v :=
  ⟨_, rfl, fun b u e => by rw [upd_ne (ne_of_none e ha), upd_ne (ne_of_none e hd)]; exact e, upd_same, by rw [upd_ne hne, upd_same]⟩
theorem look1 (f : Str) (v : V) : List.lookup f [(f, v)] = some v := by rw [lookup_put, if_pos rfl]
theorem _root_.EK.ErrTxt.xf {P : Program} {K : PySem.W.Frag} {mg : Str → Option Value} {x f : Str} {C fI : Addr} (T : ErrTxt P K mg x f C fI) : XfC K C := ⟨T.ga, T.gg, T.exC, T.hdC⟩
end L2

set_option Elab.async false
set_option linter.all false
set_option maxRecDepth 100000
set_option maxHeartbeats 4000000
/-! LcKit: comprehensions whose items are known one by one. -/
namespace L2
open PySem
/-- all but the lists stay -/
def KeepL (H H' : Hp) : Prop := ∀ b o, H b = some o → (∀ l, o ≠ .lst l) → H' b = some o
theorem KeepL.of {H H' : Hp} (s : ∀ b o, H b = some o → H' b = some o) : KeepL H H' := fun b o e _ => s b o e
theorem KeepL.trans {H H1 H2 : Hp} (s : KeepL H H1) (t : KeepL H1 H2) : KeepL H H2 := fun b o e n => t b o (s b o e n) n
inductive All2 {α β : Type} (R : α → β → Prop) : List α → List β → Prop
  | nil : All2 R [] []
  | cons {x : α} {z : β} {xs : List α} {zs : List β} (h : R x z) (t : All2 R xs zs) : All2 R (x :: xs) (z :: zs)
section
variable {α β : Type} {R : α → β → Prop}
theorem All2.length {xs : List α} {zs : List β} (h : All2 R xs zs) : xs.length = zs.length := by
  induction h with
  | nil => rfl
  | cons _ _ ih => rw [List.length_cons, List.length_cons, ih]
theorem All2.get {xs : List α} {zs : List β} (h : All2 R xs zs) {i : Nat} {x : α} (e : xs[i]? = some x) : ∃ z, zs[i]? = some z ∧ R x z := by
  induction h generalizing i with
  | nil => cases e
  | cons h t ih =>
    cases i with
    | zero => cases e; exact ⟨_, rfl, h⟩
    | succ i => exact ih e
theorem All2.getR {xs : List α} {zs : List β} (h : All2 R xs zs) {i : Nat} {z : β} (e : zs[i]? = some z) : ∃ x, xs[i]? = some x ∧ R x z := by
  induction h generalizing i with
  | nil => cases e
  | cons h t ih =>
    cases i with
    | zero => cases e; exact ⟨_, rfl, h⟩
    | succ i => exact ih e
theorem All2.append {xs ys : List α} {zs ws : List β} (h : All2 R xs zs) (g : All2 R ys ws) : All2 R (xs ++ ys) (zs ++ ws) := by
  induction h with
  | nil => exact g
  | cons h t ih => exact .cons h ih
theorem All2.mono {S : α → β → Prop} {xs : List α} {zs : List β} (h : All2 R xs zs) (m : ∀ x z, z ∈ zs → R x z → S x z) : All2 S xs zs := by
  induction h with
  | nil => exact .nil
  | cons h t ih => exact .cons (m _ _ List.mem_cons_self h) (ih fun x z hz r => m x z (List.mem_cons_of_mem _ hz) r)
theorem All2.drop {xs : List α} {zs : List β} (h : All2 R xs zs) : ∀ k : Nat, All2 R (xs.drop k) (zs.drop k)
  | 0 => h
  | k + 1 => by
    cases h with
    | nil => exact .nil
    | cons h t => exact t.drop k
theorem All2.take {xs : List α} {zs : List β} (h : All2 R xs zs) : ∀ k : Nat, All2 R (xs.take k) (zs.take k)
  | 0 => .nil
  | k + 1 => by
    cases h with
    | nil => exact .nil
    | cons h t => exact .cons h (t.take k)
theorem All2.map {γ : Type} {f : γ → α} {g : γ → β} : ∀ {cs : List γ}, (∀ c ∈ cs, R (f c) (g c)) → All2 R (cs.map f) (cs.map g)
  | [], _ => .nil
  | c :: cs, h => .cons (h c List.mem_cons_self) (All2.map fun d hd => h d (List.mem_cons_of_mem _ hd))
theorem All2.mem {xs : List α} {zs : List β} (h : All2 R xs zs) {x : α} (e : x ∈ xs) : ∃ z, z ∈ zs ∧ R x z := by
  obtain ⟨i, hi⟩ := List.mem_iff_getElem?.mp e
  obtain ⟨z, hz, r⟩ := h.get hi
  exact ⟨z, List.mem_of_getElem? hz, r⟩
/-- values that are told by what they are -/
theorem All2.eq_map {f : β → α} {xs : List α} {zs : List β} (h : All2 (fun x z => x = f z) xs zs) : xs = zs.map f := by
  induction h with
  | nil => rfl
  | cons h t ih => rw [List.map_cons, h, ih]
theorem All2.of_map {f : β → α} : ∀ zs : List β, All2 (fun x z => x = f z) (zs.map f) zs
  | [] => .nil
  | z :: zs => .cons rfl (All2.of_map zs)
end
theorem filter_take_succ {β γ : Type} {zs : List β} {i : Nat} {z : β} (e : zs[i]? = some z) (t : β → Bool) (f : β → γ) : ((zs.take (i + 1)).filter t).map f = ((zs.take i).filter t).map f ++ (if t z = true then [f z] else []) := by
  rw [List.take_succ, e, List.filter_append, List.map_append]
  congr 1
  by_cases h : t z = true
  · rw [if_pos h]
    simp [h]
  · rw [if_neg h]
    simp [h]
section
variable {K : PySem.W.Frag} {g : TG} {tt : TT} {te : TE} {vs : List Nat} {σ : St} {H1 : Hp} {D : Addr} {Qd : Hp → Prop} {α β : Type} {zs : List α} {R : Hp → V → α → Prop} {R' : Hp → V → β → Prop}
theorem sqT_same {H H' : Hp} {a : Addr} {xs : List V} (e : ∀ b o, H b = some o → H' b = some o) (h : SqT K H a xs) : SqT K H' a xs :=
  h.elim (fun h => .inl (h.elim (fun h => .inl (e _ _ h)) fun ⟨o, h⟩ => .inr ⟨o, e _ _ h⟩)) fun h => .inr h
theorem sqL_same {H H' : Hp} {a : Addr} {xs : List V} (e : ∀ b o, H b = some o → H' b = some o) (h : SqL K H a xs) : SqL K H' a xs :=
  h.elim (fun h => .inl (h.elim (fun h => .inl (e _ _ h)) fun ⟨o, h⟩ => .inr ⟨o, e _ _ h⟩)) fun h => .inr h
/-- one turn's wish -/
def LcP (H1 : Hp) (D : Addr) (R' : Hp → V → β → Prop) (zs : List α) (t : α → Bool) (f : α → β) (i : Nat) (H : Hp) : Prop := (∀ b o, H1 b = some o → H b = some o) ∧ ∃ ys, H D = some (.lst ys) ∧ All2 (R' H) ys (((zs.take i).filter t).map f)
theorem lcP_put {t : α → Bool} {f : α → β} {i : Nat} {z : α} {H H4 : Hp} {y : V} (hD : H1 D = none) (mR' : ∀ H H' x z, KeepL H H' → R' H x z → R' H' x z) (hz : zs.length < sizeLine) (e : zs[i]? = some z) (p : LcP H1 D R' zs t f i H) (ht : t z = true)
    (s : ∀ b o, H b = some o → H4 b = some o) (r : R' H4 y (f z)) : ∃ acc, H4 D = some (.lst acc) ∧ acc.length < sizeLine ∧ LcP H1 D R' zs t f (i + 1) (upd H4 D (.lst (acc ++ [y]))) := by
  obtain ⟨s1, ys, hd, a⟩ := p
  have kl : KeepL H4 (upd H4 D (.lst (ys ++ [y]))) := fun b o e n => by
    rw [upd_ne (fun q => by subst q; rw [s _ _ hd] at e; cases e; exact n _ rfl)]
    exact e
  have hlen := a.length
  rw [List.length_map] at hlen
  have h1 : ((zs.take i).filter t).length ≤ zs.length := Nat.le_trans (List.length_filter_le _ _) (by rw [List.length_take]; omega)
  refine ⟨ys, s _ _ hd, by omega, fun b o e => ?_, _, upd_same, ?_⟩
  · rw [upd_ne (ne_of_none e hD)]
    exact s _ _ (s1 _ _ e)
  · rw [filter_take_succ e, if_pos ht]
    exact (a.mono fun x z _ r => mR' _ _ _ _ kl (mR' _ _ _ _ (.of s) r)).append (.cons (mR' _ _ _ _ kl r) .nil)
theorem lcP_skip {t : α → Bool} {f : α → β} {i : Nat} {z : α} {H H3 : Hp} (mR' : ∀ H H' x z, KeepL H H' → R' H x z → R' H' x z) (e : zs[i]? = some z) (p : LcP H1 D R' zs t f i H) (ht : t z = false)
    (s : ∀ b o, H b = some o → H3 b = some o) : LcP H1 D R' zs t f (i + 1) H3 := by
  obtain ⟨s1, ys, hd, a⟩ := p
  refine ⟨fun b o e => s _ _ (s1 _ _ e), ys, s _ _ hd, ?_⟩
  rw [filter_take_succ e, if_neg (by rw [ht]; simp), List.append_nil]
  exact a.mono fun x z _ r => mR' _ _ _ _ (.of s) r
theorem lcP_zero {t : α → Bool} {f : α → β} (hD : H1 D = none) : LcP H1 D R' zs t f 0 (upd H1 D (.lst [])) := ⟨fun b o e => by rw [upd_ne (ne_of_none e hD)]; exact e, [], upd_same, .nil⟩
/-- over a list whose items are known -/
theorem lcM_list {a : Addr} {xs : List V} (t : α → Bool) (f : α → β) (hD : H1 D = none) (hS : SqL K H1 a xs) (hx : All2 (R H1) xs zs) (mR : ∀ H H' x z, (∀ b o, H b = some o → H' b = some o) → R H x z → R H' x z) (mR' : ∀ H H' x z, KeepL H H' → R' H x z → R' H' x z) (hz : zs.length < sizeLine)
    (step : ∀ (i : Nat) (x : V) (z : α) (H : Hp) (C : V → Hp → Prop) (C0 : Hp → Prop), zs[i]? = some z → (∀ b o, H1 b = some o → H b = some o) → R H x z →
      (t z = true → ∀ y H4, (∀ b o, H b = some o → H4 b = some o) → R' H4 y (f z) → C y H4) → (t z = false → ∀ H3, (∀ b o, H b = some o → H3 b = some o) → C0 H3) →
      g x (wipe σ vs) H fun σ2 H2 => wipe σ2 vs = wipe σ vs ∧ tt σ2 H2 fun b H3 => if b = true then te σ2 H3 C else C0 H3)
    (fin : ∀ ys H, (∀ b o, H1 b = some o → H b = some o) → H D = some (.lst ys) → All2 (R' H) ys ((zs.filter t).map f) → Qd H) :
    ∃ W : Nat → Nat → Hp → Prop, (∃ m, W 0 m (upd H1 D (.lst []))) ∧ ∀ i m H, W i m H →
      ((Itl K a).stop i H ∧ Qd H) ∨ ((Itl K a).go i H ∧ ∃ Nx : Hp → Prop, (∀ H', Nx H' → ∃ m', m' < m ∧ W (i + 1) m' H') ∧ ∀ x H', (Itl K a).yld i H x H' → g x (wipe σ vs) H' fun σ2 H2 => wipe σ2 vs = wipe σ vs ∧ tt σ2 H2 fun b H3 =>
        if b = true then te σ2 H3 fun y H4 => ∃ acc, H4 D = some (.lst acc) ∧ acc.length < sizeLine ∧ Nx (upd H4 D (.lst (acc ++ [y]))) else Nx H3) := by
  have el := hx.length
  refine lc_list (xs := xs) (LcP H1 D R' zs t f) (lcP_zero hD) (fun i H _ p => sqL_same p.1 hS) (fun i x H hi p => ?_) (fun H p => ?_)
  · obtain ⟨z, e, r⟩ := hx.get hi
    exact step i x z H _ _ e p.1 (mR _ _ _ _ p.1 r) (fun ht y H4 s r => lcP_put hD mR' hz e p ht s r) (fun ht H3 s => lcP_skip mR' e p ht s)
  · obtain ⟨s1, ys, hd, a2⟩ := p
    rw [el, List.take_length] at a2
    exact fin ys H s1 hd a2
/-- over a tuple -/
theorem lcM_tup {a : Addr} {xs : List V} (t : α → Bool) (f : α → β) (hD : H1 D = none) (hS : SqT K H1 a xs) (hx : All2 (R H1) xs zs) (mR : ∀ H H' x z, (∀ b o, H b = some o → H' b = some o) → R H x z → R H' x z) (mR' : ∀ H H' x z, KeepL H H' → R' H x z → R' H' x z) (hz : zs.length < sizeLine)
    (step : ∀ (i : Nat) (x : V) (z : α) (H : Hp) (C : V → Hp → Prop) (C0 : Hp → Prop), zs[i]? = some z → (∀ b o, H1 b = some o → H b = some o) → R H x z →
      (t z = true → ∀ y H4, (∀ b o, H b = some o → H4 b = some o) → R' H4 y (f z) → C y H4) → (t z = false → ∀ H3, (∀ b o, H b = some o → H3 b = some o) → C0 H3) →
      g x (wipe σ vs) H fun σ2 H2 => wipe σ2 vs = wipe σ vs ∧ tt σ2 H2 fun b H3 => if b = true then te σ2 H3 C else C0 H3)
    (fin : ∀ ys H, (∀ b o, H1 b = some o → H b = some o) → H D = some (.lst ys) → All2 (R' H) ys ((zs.filter t).map f) → Qd H) :
    ∃ W : Nat → Nat → Hp → Prop, (∃ m, W 0 m (upd H1 D (.lst []))) ∧ ∀ i m H, W i m H →
      ((Itt K a).stop i H ∧ Qd H) ∨ ((Itt K a).go i H ∧ ∃ Nx : Hp → Prop, (∀ H', Nx H' → ∃ m', m' < m ∧ W (i + 1) m' H') ∧ ∀ x H', (Itt K a).yld i H x H' → g x (wipe σ vs) H' fun σ2 H2 => wipe σ2 vs = wipe σ vs ∧ tt σ2 H2 fun b H3 =>
        if b = true then te σ2 H3 fun y H4 => ∃ acc, H4 D = some (.lst acc) ∧ acc.length < sizeLine ∧ Nx (upd H4 D (.lst (acc ++ [y]))) else Nx H3) := by
  have el := hx.length
  refine lc_tup (xs := xs) (LcP H1 D R' zs t f) (lcP_zero hD) (fun i H _ p => sqT_same p.1 hS) (fun i x H hi p => ?_) (fun H p => ?_)
  · obtain ⟨z, e, r⟩ := hx.get hi
    exact step i x z H _ _ e p.1 (mR _ _ _ _ p.1 r) (fun ht y H4 s r => lcP_put hD mR' hz e p ht s r) (fun ht H3 s => lcP_skip mR' e p ht s)
  · obtain ⟨s1, ys, hd, a2⟩ := p
    rw [el, List.take_length] at a2
    exact fin ys H s1 hd a2
/-- over a range -/
theorem lcM_range {lo : Int} {n : Nat} (t : Nat → Bool) (f : Nat → β) (hD : H1 D = none) (mR' : ∀ H H' x z, KeepL H H' → R' H x z → R' H' x z) (hz : n < sizeLine)
    (step : ∀ (i : Nat) (H : Hp) (C : V → Hp → Prop) (C0 : Hp → Prop), i < n → (∀ b o, H1 b = some o → H b = some o) →
      (t i = true → ∀ y H4, (∀ b o, H b = some o → H4 b = some o) → R' H4 y (f i) → C y H4) → (t i = false → ∀ H3, (∀ b o, H b = some o → H3 b = some o) → C0 H3) →
      g (.int (lo + i)) (wipe σ vs) H fun σ2 H2 => wipe σ2 vs = wipe σ vs ∧ tt σ2 H2 fun b H3 => if b = true then te σ2 H3 C else C0 H3)
    (fin : ∀ ys H, (∀ b o, H1 b = some o → H b = some o) → H D = some (.lst ys) → All2 (R' H) ys (((List.range n).filter t).map f) → Qd H) :
    ∃ W : Nat → Nat → Hp → Prop, (∃ m, W 0 m (upd H1 D (.lst []))) ∧ ∀ i m H, W i m H →
      ((Itr lo n).stop i H ∧ Qd H) ∨ ((Itr lo n).go i H ∧ ∃ Nx : Hp → Prop, (∀ H', Nx H' → ∃ m', m' < m ∧ W (i + 1) m' H') ∧ ∀ x H', (Itr lo n).yld i H x H' → g x (wipe σ vs) H' fun σ2 H2 => wipe σ2 vs = wipe σ vs ∧ tt σ2 H2 fun b H3 =>
        if b = true then te σ2 H3 fun y H4 => ∃ acc, H4 D = some (.lst acc) ∧ acc.length < sizeLine ∧ Nx (upd H4 D (.lst (acc ++ [y]))) else Nx H3) := by
  refine lc_range (LcP H1 D R' (List.range n) t f) (lcP_zero hD) (fun i H hi p => ?_) (fun H p => ?_)
  · have e : (List.range n)[i]? = some i := List.getElem?_range hi
    exact step i H _ _ hi p.1 (fun ht y H4 s r => lcP_put hD mR' (by rw [List.length_range]; exact hz) e p ht s r) (fun ht H3 s => lcP_skip mR' e p ht s)
  · obtain ⟨s1, ys, hd, a2⟩ := p
    have e2 : (List.range n).take n = List.range n := List.take_of_length_le (by rw [List.length_range]; exact Nat.le_refl _)
    rw [e2] at a2
    exact fin ys H s1 hd a2
end
end L2

set_option Elab.async false
set_option linter.all false
set_option maxRecDepth 100000
set_option maxHeartbeats 4000000
/-! DataKit: sorted, min of data at any depth and length, as rules of the layer. -/
namespace L2
open PySem PySem.Spec PyProof.Rows
section
variable {X : Cx} {pins : List (Addr × Obj)} {σ : St} {H : Hp} {s : Shared}
theorem each_vals (I : Inv X pins σ H s) : ∀ {bs : List (V × PyData)} {us : List Value}, Vals (bs.map (·.1)) us → (∀ b ∈ bs, Dp X.K H b.1 b.2) → PySem.W.EachIs (fun v b => RelV b.1 v) us bs ∧ PySem.W.EachIs (fun v b => ∃ as, Reads s.heap v b.2 as) us bs
  | [], _, r, _ => by
    cases r
    exact ⟨.nil, .nil⟩
  | b :: bs, _, r, h => by
    cases r with
    | cons r1 r2 =>
      obtain ⟨e1, e2⟩ := each_vals I r2 fun c hc => h c (List.mem_cons_of_mem _ hc)
      exact ⟨.cons r1 e1, .cons (Dp.reads I _ _ _ (h b List.mem_cons_self) r1) e2⟩
theorem vals_each : ∀ {us : List Value} {bs : List (V × PyData)}, PySem.W.EachIs (fun v b => RelV b.1 v) us bs → Vals (bs.map (·.1)) us
  | _, _, .nil => .nil
  | _, _, .cons r t => .cons r (vals_each t)
/-- sorted(xs) of data that are alike -/
def rSortedD (K : PySem.W.Frag) : List V → Hp → VK → Prop := fun vs H Q => ∃ (a : Addr) (bs : List (V × PyData)), vs = [V.ref a] ∧ SqL K H a (bs.map (·.1)) ∧ (∀ b ∈ bs, Dp K H b.1 b.2) ∧ PySem.W.AllAlike (bs.map (·.2)) ∧ PySem.W.Sortable (bs.map (·.2)) ∧ (∀ b ∈ bs, b.2.depth ≤ 50) ∧
  ∀ p, H p = none → Q (.ref p) (upd H p (.lst ((bs.mergeSort (PySem.W.dataLe false (·.2))).map (·.1))))
theorem cr_sortedD (hu : X.A.units + 64 < cLine) : CallR X (.builtin "sorted") (rSortedD X.K) := by
  intro pins s σ H vs us Q I r h
  obtain ⟨a, bs, rfl, hs, hd, hal, hk, hdep, q⟩ := h
  obtain ⟨its, rv, hl, hz⟩ := I.list hs
  obtain ⟨u, rfl, ru⟩ := vals1 r
  obtain rfl : u = Value.ref a := ru
  obtain ⟨e1, e2⟩ := each_vals I rv hd
  rw [List.length_map] at hz
  refine PySem.W.sorted_data (enc := fun b : V × PyData => b.2) hl.isList e1 e2 hal hk hz (fun b hb => by have := hdep b hb; omega) fun out hlen ho => ?_
  obtain ⟨n, hn⟩ := sortedAll_at s.heap its out.toArray
  have rv2 := vals_each ho
  exact ⟨.ref (s.heap.objs.size + 1), _, I.laid (t' := s.toks) (a := s.heap.objs.size + 1) (o := .lst ((bs.mergeSort (PySem.W.dataLe false (·.2))).map (·.1))) (fun b o e => sortedAll_old e) (Nat.le_succ _) ⟨by rw [rv2.length, hlen]; exact hz, out, n, rv2, hn⟩, rfl, q _ (I.hok.fresh (Nat.le_succ _))⟩
/-- min(xs) of texts, one at least -/
def minS (x : Str) (xs : List Str) : Str := xs.foldl (fun a y => if decide (y.cps.toList < a.cps.toList) = true then y else a) x
theorem minD_strs (x : Str) : ∀ xs : List Str, PySem.W.minD (.str x) (xs.map PyData.str) = .str (minS x xs) := by
  intro xs
  induction xs generalizing x with
  | nil => rfl
  | cons y ys ih =>
    show PySem.W.minD (if PySem.W.dataLt (.str y) (.str x) = true then .str y else .str x) (ys.map PyData.str) = .str (minS (if decide (y.cps.toList < x.cps.toList) = true then y else x) ys)
    rw [PySem.W.dataLt_str]
    split
    · exact ih y
    · exact ih x
theorem reads_strs {h : Heap} : ∀ {xs : List Str} {us : List Value}, Vals (xs.map V.str) us → ∃ as, ReadsAll h us (xs.map PyData.str) as
  | [], _, r => by
    cases r
    exact ⟨_, .nil⟩
  | x :: xs, _, r => by
    cases r with
    | cons r1 r2 =>
      obtain ⟨t, rfl⟩ := r1
      obtain ⟨as, z⟩ := reads_strs (h := h) r2
      exact ⟨_, .cons (.str x t) z⟩
theorem depth_strs : ∀ xs : List Str, PyData.depthAll (xs.map PyData.str) ≤ 1
  | [] => by simp [PyData.depthAll]
  | x :: xs => by
    have := depth_strs xs
    simp only [List.map_cons, PyData.depthAll, PyData.depth]
    omega
def rMinS (K : PySem.W.Frag) : List V → Hp → VK → Prop := fun vs H Q => ∃ (a : Addr) (x : Str) (xs : List Str), vs = [V.ref a] ∧ SqL K H a ((x :: xs).map V.str) ∧ Q (.str (minS x xs)) H
theorem cr_minS (hc : X.calm = true) (hu : X.A.units + 64 < cLine) : CallR X (.builtin "min") (rMinS X.K) := by
  intro pins s σ H vs us Q I r h
  obtain ⟨a, x, xs, rfl, hs, q⟩ := h
  obtain ⟨its, rv, hl, hz⟩ := I.list hs
  obtain ⟨u, rfl, ru⟩ := vals1 r
  obtain rfl : u = Value.ref a := ru
  obtain ⟨as, hr⟩ := reads_strs (h := s.heap) rv
  have hdep := depth_strs (x :: xs)
  refine PySem.W.min_list_data (x := .str x) (xs := xs.map PyData.str) (I.ok.hd hc) hl.isList (by simpa using hr) ⟨fun y hy z hz => ?_, fun y hy => ?_⟩ (by have : PyData.depthAll (PyData.str x :: xs.map PyData.str) ≤ 1 := hdep; omega) fun i v h' tk bs hv hrd hk => ?_
  · obtain ⟨y', _, rfl⟩ := List.mem_map.mp (show y ∈ (x :: xs).map PyData.str from hy)
    obtain ⟨z', _, rfl⟩ := List.mem_map.mp (show z ∈ (x :: xs).map PyData.str from hz)
    simp [PySem.W.alike]
  · obtain ⟨y', _, rfl⟩ := List.mem_map.mp (show y ∈ (x :: xs).map PyData.str from hy)
    exact fun z => nomatch z
  · rw [minD_strs] at hrd
    cases hrd with
    | str _ t => exact ⟨.str (minS x xs), H, I.kept (t' := tk) hk, ⟨t, rfl⟩, q⟩
end
end L2

set_option Elab.async false
set_option linter.all false
set_option maxRecDepth 100000
set_option maxHeartbeats 4000000
/-! SortKit: a list put in order, as a plain function that evaluates. -/
namespace L2
open PySem
section
variable {α : Type} (le : α → α → Bool)
def ins (a : α) : List α → List α
  | [] => [a]
  | b :: r => if le a b = true then a :: b :: r else b :: ins a r
def isort : List α → List α
  | [] => []
  | a :: r => ins le a (isort r)
theorem ins_perm (a : α) : ∀ l, (ins le a l).Perm (a :: l)
  | [] => .refl _
  | b :: r => by
    unfold ins
    split
    · exact .refl _
    · exact ((ins_perm a r).cons b).trans (.swap a b r)
theorem isort_perm : ∀ l, (isort le l).Perm l
  | [] => .refl _
  | a :: r => (ins_perm le a _).trans ((isort_perm r).cons a)
variable (trans : ∀ x y z, le x y = true → le y z = true → le x z = true) (total : ∀ x y, (le x y || le y x) = true)
include trans total
theorem ins_sorted (a : α) : ∀ {l : List α}, l.Pairwise (fun x y => le x y = true) → (ins le a l).Pairwise (fun x y => le x y = true)
  | [], _ => List.pairwise_singleton _ _
  | b :: r, h => by
    obtain ⟨h1, h2⟩ := List.pairwise_cons.mp h
    unfold ins
    split
    · rename_i q
      refine List.pairwise_cons.mpr ⟨fun c hc => ?_, h⟩
      rcases List.mem_cons.mp hc with rfl | hc
      · exact q
      · exact trans _ _ _ q (h1 c hc)
    · rename_i q
      refine List.pairwise_cons.mpr ⟨fun c hc => ?_, ins_sorted a h2⟩
      have hc2 := (ins_perm le a r).mem_iff.mp hc
      rcases List.mem_cons.mp hc2 with rfl | hc2
      · have t := total c b
        rw [Bool.or_eq_true] at t
        exact t.resolve_left q
      · exact h1 c hc2
theorem isort_sorted : ∀ l : List α, (isort le l).Pairwise (fun x y => le x y = true)
  | [] => List.Pairwise.nil
  | a :: r => ins_sorted le trans total a (isort_sorted r)
omit trans total in
theorem sorted_uniq : ∀ {l m : List α}, (∀ x ∈ l, ∀ y ∈ l, le x y = true → le y x = true → x = y) → l.Perm m → l.Pairwise (fun x y => le x y = true) → m.Pairwise (fun x y => le x y = true) → l = m
  | [], m, _, p, _, _ => by rw [List.nil_perm.mp p]
  | a :: l, m, an, p, h1, h2 => by
    cases m with
    | nil => exact absurd p.length_eq (by simp)
    | cons b m =>
      obtain ⟨s1, s2⟩ := List.pairwise_cons.mp h1
      obtain ⟨t1, t2⟩ := List.pairwise_cons.mp h2
      have e : a = b := by
        have ha : a ∈ b :: m := p.mem_iff.mp List.mem_cons_self
        have hb : b ∈ a :: l := p.mem_iff.mpr List.mem_cons_self
        rcases List.mem_cons.mp ha with e | ha
        · exact e
        rcases List.mem_cons.mp hb with e | hb2
        · exact e.symm
        exact an _ List.mem_cons_self _ hb (s1 b hb2) (t1 a ha)
      subst e
      rw [sorted_uniq (fun x hx y hy => an x (List.mem_cons_of_mem _ hx) y (List.mem_cons_of_mem _ hy)) p.cons_inv s2 t2]
theorem msort_isort (l : List α) (an : ∀ x ∈ l, ∀ y ∈ l, le x y = true → le y x = true → x = y) : l.mergeSort le = isort le l := by
  refine sorted_uniq le (fun x hx y hy => an x ((List.mergeSort_perm l le).mem_iff.mp hx) y ((List.mergeSort_perm l le).mem_iff.mp hy)) ((List.mergeSort_perm l le).trans (isort_perm le l).symm) ?_ (isort_sorted le trans total l)
  exact List.pairwise_mergeSort (fun a b c => trans a b c) (fun a b => total a b) l
end
/-- a sign and its place, as data -/
def skey (cs : List Nat) (i : Nat) : PyData := .tuple [.str ⟨#[cs.getD i 0]⟩, .int i]
/-- a pair of an address and its place, by sign and place -/
def dle {β : Type} (k : β → PyData) : β → β → Bool := PySem.W.dataLe false k
theorem dle_trans {β : Type} (k : β → PyData) (x y z : β) (h1 : dle k x y = true) (h2 : dle k y z = true) : dle k x z = true := (PySem.W.sortLe_total (PyProof.Rows.listOrd PyProof.Rows.itemOrd) false fun b => PySem.W.keyToks (k b)).trans x y z h1 h2
theorem dle_total {β : Type} (k : β → PyData) (x y : β) : (dle k x y || dle k y x) = true := by
  rw [Bool.or_eq_true]
  exact (PySem.W.sortLe_total (PyProof.Rows.listOrd PyProof.Rows.itemOrd) false fun b => PySem.W.keyToks (k b)).total x y
theorem dle_anti {β : Type} {k : β → PyData} {x y : β} (h1 : dle k x y = true) (h2 : dle k y x = true) : PySem.W.keyToks (k x) = PySem.W.keyToks (k y) := by
  have e1 : (!(PyProof.Rows.listOrd PyProof.Rows.itemOrd).blt (PySem.W.keyToks (k y)) (PySem.W.keyToks (k x))) = true := h1
  have e2 : (!(PyProof.Rows.listOrd PyProof.Rows.itemOrd).blt (PySem.W.keyToks (k x)) (PySem.W.keyToks (k y))) = true := h2
  rw [Bool.not_eq_true'] at e1 e2
  exact (PyProof.Rows.listOrd PyProof.Rows.itemOrd).total _ _ e2 e1
/-- the places in the order of their signs -/
def ordI (cs : List Nat) : List Nat := isort (dle (skey cs)) (List.range cs.length)
theorem skey_inj {cs ds : List Nat} {i j : Nat} (h : PySem.W.keyToks (skey cs i) = PySem.W.keyToks (skey ds j)) : i = j := by
  have e1 : ∀ (es : List Nat) (n : Nat), PySem.W.keyToks (skey es n) = [.inl 1, .inr [es.getD n 0], .inl 1, .inl n, .inl 0] := fun es n => by
    simp [skey, PySem.W.keyToks, PySem.W.keyToksAll]
  rw [e1, e1] at h
  injection h with _ h
  injection h with _ h
  injection h with _ h
  injection h with h _
  injection h with h
  exact Int.ofNat.inj h
/-- the pairs at their places, put in order: as ordI says -/
theorem sort_pairs (cs : List Nat) (bs : List (V × PyData)) (f : Nat → Addr) (e : bs = (List.range cs.length).map fun i => (V.ref (f i), skey cs i)) :
    (bs.mergeSort (PySem.W.dataLe false (·.2))).map (·.1) = (ordI cs).map fun i => V.ref (f i) := by
  have h1 := List.map_mergeSort (f := fun i : Nat => (V.ref (f i), skey cs i)) (r := dle (skey cs)) (s := PySem.W.dataLe false (·.2)) (l := List.range cs.length) fun a _ b _ => rfl
  rw [e, ← h1, List.map_map, msort_isort (dle (skey cs)) (dle_trans _) (dle_total _) _ fun x _ y _ h1 h2 => skey_inj (dle_anti h1 h2)]
  rfl
example : ordI [98, 97, 36, 97] = [2, 1, 3, 0] := by decide +kernel
end L2

set_option Elab.async false
set_option linter.all false
set_option maxRecDepth 100000
set_option maxHeartbeats 4000000
/-! IntsKit: tuples and lists of ints as data. -/
namespace L2
open PySem
def tI (ns : List Int) : PyData := .tuple (ns.map PyData.int)
def lI (ns : List Int) : PyData := .list (ns.map PyData.int)
theorem dp_ints {K : PySem.W.Frag} {H : Hp} : ∀ ns : List Int, DpAll K H (ns.map V.int) (ns.map PyData.int)
  | [] => .nil
  | n :: r => .cons (.int n) (dp_ints r)
theorem dp_tI {K : PySem.W.Frag} {H : Hp} {a : Addr} {ns : List Int} (h : SqT K H a (ns.map V.int)) : Dp K H (.ref a) (tI ns) := .tup h (dp_ints ns)
theorem dp_lI {K : PySem.W.Frag} {H : Hp} {a : Addr} {ns : List Int} (h : SqL K H a (ns.map V.int)) : Dp K H (.ref a) (lI ns) := .lst h (dp_ints ns)
theorem shaped_lI (ns : List Int) : SeqAt.shaped (lI ns) = true := PySem.W.ke_shaped_ints ns
theorem shaped_tI (ns : List Int) : SeqAt.shaped (tI ns) = true := by
  simp [tI, SeqAt.shaped, PyData.canLay0, PyData.depth, PySem.W.ke_canLayAll0, PySem.W.ke_depthAll]
theorem eqvAll_ints : ∀ ns ms : List Int, PyData.eqvAll (ns.map PyData.int) (ms.map PyData.int) = decide (ns = ms)
  | [], [] => by simp [PyData.eqvAll]
  | [], _ :: _ => by simp [PyData.eqvAll]
  | _ :: _, [] => by simp [PyData.eqvAll]
  | n :: r, k :: q => by
    simp only [List.map_cons, PyData.eqvAll, PyData.eqv, eqvAll_ints r q]
    by_cases h : n = k <;> simp [h]
theorem eqv_tI (ns ms : List Int) : PyData.eqv (tI ns) (tI ms) = decide (ns = ms) := by
  unfold tI
  simp only [PyData.eqv]
  exact eqvAll_ints ns ms
theorem eqv_lI (ns ms : List Int) : PyData.eqv (lI ns) (lI ms) = decide (ns = ms) := by
  unfold lI
  simp only [PyData.eqv]
  exact eqvAll_ints ns ms
theorem depth_tI (ns : List Int) : (tI ns).depth = 1 := by simp [tI, PyData.depth, PySem.W.ke_depthAll]
theorem flat_ints (ns : List Int) : (ns.map V.int).all flatV = true := by
  rw [List.all_map, List.all_eq_true]
  intro n _
  rfl
theorem inV_ints (k : Int) (ns : List Int) : inV (.int k) (ns.map V.int) = ns.any (· == k) := by
  unfold inV
  rw [List.any_map]
  rfl
/-- a tuple of ints -/
def RTup (H : Hp) (x : V) (ns : List Int) : Prop := ∃ p, x = .ref p ∧ H p = some (.tup (ns.map V.int))
theorem rtup_keep (H H' : Hp) (x : V) (ns : List Int) (k : KeepL H H') (r : RTup H x ns) : RTup H' x ns := by
  obtain ⟨p, rfl, e⟩ := r
  exact ⟨p, rfl, k _ _ e fun _ z => by cases z⟩
theorem rtup_same (H H' : Hp) (x : V) (ns : List Int) (s : ∀ b o, H b = some o → H' b = some o) (r : RTup H x ns) : RTup H' x ns := rtup_keep H H' x ns (.of s) r
def RInt (_ : Hp) (x : V) (n : Int) : Prop := x = .int n
theorem rint_keep (H H' : Hp) (x : V) (n : Int) (_ : KeepL H H') (r : RInt H x n) : RInt H' x n := r
theorem rint_map {H : Hp} {ys : List V} {ns : List Int} (h : All2 (RInt H) ys ns) : ys = ns.map V.int := All2.eq_map (f := V.int) h
/-- tuples of ints by their order -/
def leT (a b : List Int) : Bool := dle tI a b
def sortT (xs : List (List Int)) : List (List Int) := isort leT xs
theorem toks_tI (ns : List Int) : ∃ r, PySem.W.keyToks (tI ns) = r := ⟨_, rfl⟩
end L2
namespace L2
open PySem
theorem toksAll_inj : ∀ {ns ms : List Int}, PySem.W.keyToksAll (ns.map PyData.int) = PySem.W.keyToksAll (ms.map PyData.int) → ns = ms
  | [], [], _ => rfl
  | [], m :: r, h => by simp [PySem.W.keyToksAll] at h
  | n :: r, [], h => by simp [PySem.W.keyToksAll] at h
  | n :: r, m :: q, h => by
    simp only [List.map_cons, PySem.W.keyToksAll, PySem.W.keyToks, List.cons_append, List.nil_append] at h
    injection h with _ h
    injection h with h1 h2
    injection h1 with h1
    rw [h1, toksAll_inj h2]
theorem toks_inj {ns ms : List Int} (h : PySem.W.keyToks (tI ns) = PySem.W.keyToks (tI ms)) : ns = ms := by
  unfold tI at h
  simp only [PySem.W.keyToks] at h
  exact toksAll_inj h
theorem zip_snd {α β : Type} {R : α → β → Prop} {xs : List α} {zs : List β} (h : All2 R xs zs) : (xs.zip zs).map (·.2) = zs ∧ (∀ q ∈ xs.zip zs, R q.1 q.2) ∧ (xs.zip zs).map (·.1) = xs := by
  induction h with
  | nil => exact ⟨rfl, fun q hq => (by cases hq), rfl⟩
  | cons h t ih =>
    refine ⟨?_, fun q hq => ?_, ?_⟩
    · rw [List.zip_cons_cons, List.map_cons, ih.1]
    · rw [List.zip_cons_cons] at hq
      rcases List.mem_cons.mp hq with rfl | hq
      · exact h
      · exact ih.2.1 q hq
    · rw [List.zip_cons_cons, List.map_cons, ih.2.2]
theorem all2_of_pairs {α β : Type} {R : α → β → Prop} : ∀ {qs : List (α × β)}, (∀ q ∈ qs, R q.1 q.2) → All2 R (qs.map (·.1)) (qs.map (·.2))
  | [], _ => .nil
  | q :: qs, h => .cons (h q List.mem_cons_self) (all2_of_pairs fun p hp => h p (List.mem_cons_of_mem _ hp))
def prD (q : V × List Int) : V × PyData := (q.1, tI q.2)
theorem sorted_tups {R : V → List Int → Prop} {xs : List V} {zs : List (List Int)} (h : All2 R xs zs) : All2 R ((((xs.zip zs).map prD).mergeSort (PySem.W.dataLe false (·.2))).map (·.1)) (sortT zs) := by
  obtain ⟨e2, hR, _⟩ := zip_snd h
  have h1 := List.map_mergeSort (f := prD) (r := dle fun q : V × List Int => tI q.2) (s := PySem.W.dataLe false (·.2)) (l := xs.zip zs) fun a _ b _ => rfl
  rw [← h1, List.map_map]
  have hp := List.mergeSort_perm (xs.zip zs) (dle fun q : V × List Int => tI q.2)
  have hs : ((xs.zip zs).mergeSort (dle fun q : V × List Int => tI q.2)).Pairwise (fun x y => dle (fun q : V × List Int => tI q.2) x y = true) := List.pairwise_mergeSort (fun a b c => dle_trans _ a b c) (fun a b => dle_total _ a b) _
  have e3 : ((xs.zip zs).mergeSort (dle fun q : V × List Int => tI q.2)).map (·.2) = sortT zs := by
    refine sorted_uniq leT (fun x _ y _ a b => toks_inj (dle_anti a b)) ?_ ?_ (isort_sorted leT (dle_trans tI) (dle_total tI) zs)
    · have q := (hp.map (·.2)).trans (by rw [e2])
      exact q.trans (isort_perm leT zs).symm
    · rw [List.pairwise_map]
      exact hs
  rw [← e3]
  exact all2_of_pairs fun q hq => hR q (hp.mem_iff.mp hq)
theorem alike_ints : ∀ ns ms : List Int, PySem.W.alikeAll (ns.map PyData.int) (ms.map PyData.int) = true
  | [], [] => rfl
  | [], _ :: _ => rfl
  | _ :: _, [] => rfl
  | n :: r, m :: q => by simp [PySem.W.alikeAll, PySem.W.alike, alike_ints r q]
/-- sorted(xs) of tuples of ints, none empty -/
theorem sortedT_ok {K : PySem.W.Frag} {H : Hp} {a : Addr} {xs : List V} {zs : List (List Int)} {Q : VK} (hS : H a = some (.lst xs)) (h : All2 (RTup H) xs zs) (hne : ∀ z ∈ zs, z ≠ [])
    (k : ∀ p ys, H p = none → All2 (RTup H) ys (sortT zs) → Q (.ref p) (upd H p (.lst ys))) : rSortedD K [V.ref a] H Q := by
  obtain ⟨e2, hR, e1⟩ := zip_snd h
  have em : ((xs.zip zs).map prD).map (·.1) = xs := by
    rw [List.map_map]
    exact e1
  have ed : ((xs.zip zs).map prD).map (·.2) = zs.map tI := by
    rw [List.map_map]
    conv => rhs; rw [← e2, List.map_map]
    rfl
  refine ⟨a, (xs.zip zs).map prD, rfl, by rw [em]; exact .of hS, fun b hb => ?_, ?_, ?_, fun b hb => ?_, fun p hp => k p _ hp (sorted_tups h)⟩
  · obtain ⟨q, hq, rfl⟩ := List.mem_map.mp hb
    obtain ⟨p, e, hp⟩ := hR q hq
    show Dp K H q.1 (tI q.2)
    rw [e]
    exact dp_tI (.of hp)
  · rw [ed]
    intro d hd d' hd'
    obtain ⟨n, _, rfl⟩ := List.mem_map.mp hd
    obtain ⟨m, _, rfl⟩ := List.mem_map.mp hd'
    simp only [tI, PySem.W.alike]
    exact alike_ints n m
  · rw [ed]
    refine .inl fun d hd => ?_
    obtain ⟨n, hn, rfl⟩ := List.mem_map.mp hd
    cases n with
    | nil => exact absurd rfl (hne _ hn)
    | cons n r => exact ⟨.int n, r.map PyData.int, rfl⟩
  · obtain ⟨q, hq, rfl⟩ := List.mem_map.mp hb
    show (tI q.2).depth ≤ 50
    rw [depth_tI]
    decide
end L2
namespace L2
open PySem
theorem catA_ok {K : PySem.W.Frag} {H : Hp} {a b : Addr} {xs ys : List V} {Q : VK} (ha : H a = some (.tup xs)) (hb : H b = some (.tup ys)) (hl : xs.length + ys.length ≤ sizeLine) (k : ∀ p H', Same H H' → H' p = some (.tup (xs ++ ys)) → Q (.ref p) H') : rCatA K (.ref a) (.ref b) H Q :=
  ⟨a, b, xs, ys, rfl, rfl, .of ha, .of hb, hl, fun e => k _ _ (.refl _) (by rw [e]; exact hb), fun _ e => k _ _ (.refl _) (by rw [e, List.append_nil]; exact ha), fun _ _ p hp => k _ _ (fun c u e => by rw [upd_ne (ne_of_none e hp)]; exact e) upd_same⟩
theorem cutV_whole (xs : List V) (lo hi : Option Int) (h : HT.sIx xs.length 0 lo = 0 ∧ HT.sIx xs.length xs.length hi = xs.length) : cutV xs lo hi = xs := by
  unfold cutV
  rw [h.1, h.2]
  simp
theorem slA_ok {K : PySem.W.Frag} {H : Hp} {a : Addr} {xs : List V} {lo hi : Option Int} {Q : VK} (ha : H a = some (.tup xs)) (k : ∀ p H', Same H H' → H' p = some (.tup (cutV xs lo hi)) → Q (.ref p) H') : rSlA K (.ref a) lo hi H Q :=
  ⟨a, xs, rfl, .of ha, fun e => k _ _ (.refl _) (by rw [cutV_whole xs lo hi e]; exact ha), fun _ p hp => k _ _ (fun c u e => by rw [upd_ne (ne_of_none e hp)]; exact e) upd_same⟩
end L2
namespace L2
open PySem PySem.Spec PyProof.Rows
section
variable {X : Cx}
/-- xs + ys of lists that may be read only -/
def rCatS (K : PySem.W.Frag) : R2 := fun x y H Q => ∃ l b xs zs, x = .ref l ∧ y = .ref b ∧ SqL K H l xs ∧ SqL K H b zs ∧ xs.length + zs.length ≤ sizeLine ∧ ∀ p, H p = none → Q (.ref p) (upd H p (.lst (xs ++ zs)))
theorem op_catS : OpR X (binaryOp .Add) (rCatS X.K) := by
  intro pins s σ H x y v u Q I rx ry h
  obtain ⟨l, b, xs, zs, rfl, rfl, ha, hb, hz, q⟩ := h
  cases rx
  cases ry
  obtain ⟨its, r1, p1, _⟩ := I.list ha
  obtain ⟨its2, r2, p2, _⟩ := I.list hb
  obtain ⟨⟨cls, dd, data, sl⟩, n, ho, hc, hdn, hd⟩ := p1
  obtain ⟨⟨cls2, dd2, data2, sl2⟩, n2, ho2, hc2, hdn2, hd2⟩ := p2
  simp only at hc hdn hd hc2 hdn2 hd2
  subst hc hdn hd hc2 hdn2 hd2
  have l1 := r1.length
  have l2 := r2.length
  refine concat_meets ⟨_, ho, rfl⟩ ⟨_, ho2, rfl⟩ noFill_list_add seq_list_add PySem.F.slot_list_add PySem.F.entry_list_add (PySem.F.args_list_add_2 _ _)
    (list_addW l b its.toArray its2.toArray n n2 none none sl sl2 (by rw [List.size_toArray, List.size_toArray]; omega)) ⟨ho, ho2, ?_⟩
  have ea : its.toArray ++ its2.toArray = (its ++ its2).toArray := by simp
  rw [ea]
  exact ⟨.ref _, _, I.lnew (t' := s.toks) (r1.append r2) (by rw [List.length_append]; omega), rfl, q _ I.fresh⟩
end
end L2

set_option Elab.async false
set_option linter.all false
set_option maxRecDepth 100000
set_option maxHeartbeats 4000000
/-! ValKit: d.values(), sum and list of it; math.comb. -/
namespace L2
open PySem PySem.Spec PyProof.Rows
section
variable {X : Cx}
abbrev vwO (p d : Addr) : HO := viewO "dict_values" p d
def rVals : V → List V → Hp → VK → Prop := fun x xs H Q => ∃ (a : Addr) (kvs : List (Key × V)), x = .ref a ∧ xs = [] ∧ H a = some (.dK kvs) ∧ ∀ p, H p = none → Q (.ref p) (upd H p (vwO p a))
theorem mt_values : MtR X "dict.values" rVals := by
  intro pins s σ H x xs v us Q I rx rxs h
  obtain ⟨a, kvs, rfl, rfl, ha, q⟩ := h
  cases rx
  cases rxs
  obtain ⟨_, hsys, vs, rel, dof⟩ := dk_of I.hok ha
  refine call_meetsIn F.slot_dict_values dof.typeIs F.entry_dict_values (F.args_dict_values_1 _) (meets_dict_values (mixKind X.prog X.w) a hsys) ⟨⟨vs, dof⟩, ?_⟩
  exact ⟨.ref s.heap.objs.size, upd H s.heap.objs.size (vwO s.heap.objs.size a), I.laid (t' := s.toks) (fun b u e => Heap.get?_push_of_some _ e) (Nat.le_refl _) (viewO_ok (Heap.get?_push_size _ rfl)), rfl, q _ (I.hok.fresh (Nat.le_refl _))⟩
theorem preSum_ints (ns : List Int) : ∀ j, preSum (fun i => ns.getD i 0) j = (ns.take j).sum := by
  intro j
  induction j with
  | zero => simp [preSum]
  | succ j ih =>
    rw [preSum, ih]
    by_cases h : j < ns.length
    · rw [List.getD_eq_getElem?_getD, List.getElem?_eq_getElem h, List.take_succ_eq_append_getElem h, List.sum_append]
      simp only [Option.getD_some, List.sum_cons, List.sum_nil, Int.add_zero]
    · rw [List.take_of_length_le (by omega), List.take_of_length_le (by omega), List.getD_eq_getElem?_getD, List.getElem?_eq_none (by omega)]
      simp
def rSumV : List V → Hp → VK → Prop := fun xs H Q => ∃ (p a : Addr) (kvs : List (Key × V)) (ns : List Int), xs = [.ref p] ∧ H p = some (vwO p a) ∧ H a = some (.dK kvs) ∧ kvs.map (·.2) = ns.map V.int ∧ Q (.int ns.sum) H
theorem cr_sumV (hc : X.calm = true) : CallR X (.builtin "sum") rSumV := by
  intro pins s σ H xs us Q I r h
  obtain ⟨p, a, kvs, ns, rfl, hp, ha, hv, q⟩ := h
  rw [Vals.ref1 r]
  have vw : s.heap.get? p = some (DSub.viewOb "dict_values" a) := (show ObjOk X.prog X.w H s.heap p (vwO p a) from I.hok p _ hp).1
  obtain ⟨_, hsys, vs, rel, dof⟩ := dk_of I.hok ha
  obtain ⟨ep, dat⟩ := dof.dictAt
  obtain ⟨ob, es, ho, ex, hdat, hko, hpr, hnd⟩ := id dat
  have hlt : a < s.heap.objs.size := Heap.lt_size ho
  have hlv : vs.length = ns.length := by
    have e1 := congrArg List.length hv
    rw [List.length_map, List.length_map] at e1
    rw [← e1]
    exact (KV.length rel).symm
  have hval : ∀ (i : Nat) (v : Value), (∃ k, vs[i]? = some (k, v)) → ∃ t, v = Value.int (ns.getD i 0) t := fun i v ⟨k, hk⟩ => by
    obtain ⟨x, h1, h2⟩ := KV.at' rel hk
    have e1 : (kvs.map (·.2))[i]? = some x := by rw [List.getElem?_map, h1] <;> rfl
    rw [hv, List.getElem?_map] at e1
    obtain ⟨j, hj, e2⟩ := Option.map_eq_some_iff.mp e1
    subst e2
    obtain ⟨t, e3⟩ := h2
    refine ⟨t, ?_⟩
    rw [e3, List.getD_eq_getElem?_getD, hj] <;> rfl
  refine call_sum_walkAnyS (wpAny_pyIter_values (v := p) (d := a) ⟨_, vw, rfl, rfl⟩ dat ?_)
  refine ⟨_, _, _, _, _, _, _, fun i => ns.getD i 0, rfl, (Walks.dictValues (knd := mixKind X.prog X.w) (A := X.A.in1) (I.ok.hd hc) s.heap.objs.size a (Nat.ne_of_lt hlt) vs ep).toS,
    ⟨⟨_, Heap.get?_push_size _ rfl, rfl, rfl⟩, dat.keep fun b u e => Heap.get?_push_of_some _ e⟩, fun b hb => ?_, hval, fun s' t' hm => ?_⟩
  · rcases List.mem_cons.mp hb with e | hb
    · rw [e, Heap.size_push]
      exact Nat.lt_succ_self _
    · rw [List.mem_singleton.mp hb, Heap.size_push]
      exact Nat.lt_succ_of_lt hlt
  · have hk : ∀ b o, s.heap.get? b = some o → s'.heap.get? b = some o := fun b o e =>
      hm.heap b o (fun hI => absurd (Heap.lt_size e) (by rw [List.mem_singleton.mp hI]; exact Nat.lt_irrefl _)) (Heap.get?_push_of_some _ e)
    rw [Moved.eq_with hm]
    refine ⟨.int _, H, I.kept (t' := s'.toks) hk, ⟨t', rfl⟩, ?_⟩
    rw [preSum_ints, hlv, List.take_length]
    exact q
def rListV : List V → Hp → VK → Prop := fun xs H Q => ∃ (p a : Addr) (kvs : List (Key × V)), xs = [.ref p] ∧ H p = some (vwO p a) ∧ H a = some (.dK kvs) ∧ ∀ r, H r = none → Q (.ref r) (upd H r (.lst (kvs.map (·.2))))
theorem vals_at {us : List Value} {xs : List V} (hl : us.length = xs.length) (h : ∀ (i : Nat) (u : Value), us[i]? = some u → ∃ x : V, xs[i]? = some x ∧ RelV x u) : Vals xs us := by
  induction xs generalizing us with
  | nil =>
    cases us with
    | nil => exact .nil
    | cons u us => cases hl
  | cons x xs ih =>
    cases us with
    | nil => cases hl
    | cons u us =>
      obtain ⟨y, e, r⟩ := h 0 u rfl
      cases e
      exact .cons r (ih (by simpa using hl) fun i u hu => by simpa using h (i + 1) u (by simpa using hu))
theorem cr_listV (hc : X.calm = true) : CallR X (.type "list") rListV := by
  intro pins s σ H xs us Q I r h
  obtain ⟨p, a, kvs, rfl, hp, ha, q⟩ := h
  rw [Vals.ref1 r]
  have vw : s.heap.get? p = some (DSub.viewOb "dict_values" a) := (show ObjOk X.prog X.w H s.heap p (vwO p a) from I.hok p _ hp).1
  obtain ⟨hz, hsys, vs, rel, dof⟩ := dk_of I.hok ha
  obtain ⟨ep, dat⟩ := dof.dictAt
  have hl : kvs.length = vs.length := KV.length rel
  refine PySem.W.kdl_call (PySem.W.kdl_values (knd := mixKind X.prog X.w) (kvs := vs) (ep := ep)) (I.ok.hd hc) ⟨⟨_, vw, rfl, rfl⟩, dat⟩ (by omega) fun h' tk acc c hk hS hacc => ?_
  refine ⟨.ref s.heap.objs.size, _, I.laid (t' := tk) (a := s.heap.objs.size) (o := .lst (kvs.map (·.2))) hk (Nat.le_refl _) ⟨by rw [List.length_map]; exact hz, acc.toList, c, vals_at (by rw [Array.length_toList, hacc.1, List.length_map, hl]) fun i u hu => ?_, by rw [Array.toArray_toList]; exact hS⟩, rfl, q _ (I.hok.fresh (Nat.le_refl _))⟩
  obtain ⟨k, e⟩ := hacc.2 i u (by rw [← Array.getElem?_toList]; exact hu)
  obtain ⟨x, h1, h2⟩ := KV.at' rel e
  exact ⟨x, by rw [List.getElem?_map, h1] <;> rfl, h2⟩
def rComb : List V → Hp → VK → Prop := fun vs H Q => ∃ a b : Int, vs = [.int a, .int b] ∧ 0 ≤ a ∧ 0 ≤ b ∧ a < 2 ^ 64 ∧ b ≤ 9000 ∧ Q (.int (PySem.W.mcComb a b)) H
theorem cr_comb : CallR X (.builtin "math.comb") rComb := by
  intro pins s σ H vs us Q I r h
  obtain ⟨a, b, rfl, ha, hb, ha2, hk, q⟩ := h
  obtain ⟨t, u, rfl⟩ := Vals.int2 r
  exact PySem.W.mc_comb ha hb ha2 (.inl hk) fun _ => ⟨.int _, H, I.tok _, ⟨_, rfl⟩, q⟩
end
end L2

set_option Elab.async false
set_option linter.all false
set_option maxRecDepth 100000
set_option maxHeartbeats 4000000
/-! RaiseKit: an error raised; several clauses, with and without names; what a lambda handed over says. -/
namespace L2
open PySem PySem.Spec PyProof.Rows EK
section
variable {X : Cx} {C fI : Addr} {x f : Str}
/-- x(e), made to be raised: its own dict, new, holds the value -/
def tErrMk (C : Addr) (f : Str) (ta : TA) : St → Hp → XK → Prop := fun σ H Q => ta σ H fun vs H1 => ∃ v, vs = [v] ∧ ∀ d, H1 d = none → Q (.ref C) (some d) (upd H1 d (.xd [(f, v)]))
theorem pmk_err {a : Expr} {ta : TA} {p pos : Pos} {k : Nat} (T : ErrTxt X.prog X.K X.mg x f C fI) (hr : Room k X.A) (ha : PA X [a] ta) (hg : Gl X x) (hd : (x == ("__debug__" : Str)) = false := by decide)
    (he : starEach (a :: []) X.env = (false, eval a X.env) :: starEach [] X.env := by rfl) (hpl : (backTo pos (starEach [] X.env)).any (·.1) = false := by rfl) :
    PMk X (.Call (.Name x p) [a] [] pos) (tErrMk C f ta) := by
  intro pins s σ H Q I h
  refine wpAny_Call_Name_kw (ld_glob I hg T.gC ?_ hd)
  refine PySem.W.callWith_K (h₀ := X.base) I.ok.mod.kin T.kC (thn (ha.run pos pins s σ H _ I h) fun us s1 hh => ?_) he hpl
  obtain ⟨vs, H1, I1, r1, v, ev, q1⟩ := hh
  subst ev
  refine ⟨I1.kIn, ?_⟩
  cases r1 with
  | cons rv rn =>
    rename_i v' us'
    cases rn
    show wpAny _ _ (call (.ref C) [v']) _ _ _
    have hlim := I1.nolimit
    obtain ⟨hp, g, dr, tk, os⟩ := s1
    obtain ⟨mb, hb1, hb2⟩ := I1.mod.blt
    refine wpAny_call (err_made T I1.kIn hlim (I1.mod.glob.keeps I1.bk) ⟨mb, hb1.keeps I1.bk, hb2⟩ (by have := hr.dp; omega) fun h' tk' e d M => ?_)
    show MkP X pins σ Q (.ref e) ⟨h', g, dr, tk', os⟩
    obtain ⟨t1, hoe⟩ := M.obj
    obtain ⟨G, g1, g2⟩ := restrict h' fun b => decide (b ≠ e)
    have gk : ∀ b, b ≠ e → G.get? b = h'.get? b := fun b hb => g1 b (decide_eq_true hb)
    have ge : G.get? e = none := g2 e (by simp)
    have gs : ∀ b o, G.get? b = some o → h'.get? b = some o := fun b o q => by
      by_cases hbe : b = e
      · rw [hbe, ge] at q
        cases q
      · exact (gk b hbe).symm.trans q
    have old : ∀ b o, hp.get? b = some o → G.get? b = some o := fun b o q => (gk b (Nat.ne_of_lt (Nat.lt_of_lt_of_le (Heap.lt_size q) M.new))).trans (M.keep b o q)
    have ob : ObjOk X.prog X.w (upd H1 d (.xd [(f, v)])) G d (.xd [(f, v)]) := ⟨_, M.ns.at (fun o q => (gk d M.dne).trans q), relO_one rv⟩
    have J : Inv X pins σ (upd H1 d (.xd [(f, v)])) ⟨G, g, dr, tk', os⟩ := I1.laid (t' := tk') old M.dbig ob
    have ne : (upd H1 d (.xd [(f, v)])) e = none := by
      rw [upd_ne (Ne.symm M.dne)]
      exact I1.hok.fresh M.new
    exact ⟨e, _, _, ⟨G, g, dr, tk', os⟩, _, .ref C, some d, rfl, J, gs, ge, hoe, ⟨rfl, rfl⟩, rfl, rfl, ne, rfl, I1.bare, raises_own T.exC T.tyC, q1 d (I1.hok.fresh M.dbig)⟩
theorem ps_raiseErr {a : Expr} {ta : TA} {W : WX} {p pos pos2 : Pos} {k : Nat} (hc : X.calm = true) (T : ErrTxt X.prog X.K X.mg x f C fI) (hr : Room k X.A) (tk : Takes X W) (ha : PA X [a] ta) (hg : Gl X x) (hd : (x == ("__debug__" : Str)) = false := by decide)
    (he : starEach (a :: []) X.env = (false, eval a X.env) :: starEach [] X.env := by rfl) (hpl : (backTo pos (starEach [] X.env)).any (·.1) = false := by rfl) :
    PS X (.Raise (some (.Call (.Name x p) [a] [] pos)) none pos2) (fun _ σ H => tErrMk C f ta σ H fun cls d H' => W cls d σ H') := ps_raise hc tk (pmk_err T hr ha hg hd he hpl)
end
/-! ### try with several clauses -/
structure Cl where
  c : Value
  i : Option Nat
  ts : Addr → Value → Option Addr → TS
def Ends.drop (D : Ends) (i : Nat) : Ends := { nx := fun s h => D.nx (s.set i none) h, rt := D.rt, bk := fun s h => D.bk (s.set i none) h, ct := fun s h => D.ct (s.set i none) h }
def Cl.run (k : Cl) (a : Addr) (cls : Value) (d : Option Addr) : TS := fun D σ H => match k.i with
  | none => k.ts a cls d D σ H
  | some i => i < σ.length → k.ts a cls d (D.drop i) (σ.set i (some (.ref a))) H
def wCl (K : PySem.W.Frag) (Wout : WX) (D : Ends) : List Cl → WX
  | [] => Wout
  | k :: r => fun cls d σ H => ∃ b, PySem.W.exmOne K cls k.c = some b ∧ (b = true → ∀ a, H a = none → k.run a cls d D σ H) ∧ (b = false → wCl K Wout D r cls d σ H)
inductive ClOk (X : Cx) : List ExceptHandler → List Cl → Prop
  | nil : ClOk X [] []
  | un {x : Str} {c : Value} {ts : Addr → Value → Option Addr → TS} {b1 : Stmt} {suite : List Stmt} {np pos' : Pos} {hds : List ExceptHandler} {l : List Cl} (hc : Names X x c)
      (hsu : ∀ (a : Addr) (oe : Obj) (cls : Value) (d : Option Addr) (pn : List (Addr × Obj)), Zc cls d oe → (∃ vs, oe.data = .fields vs) → PSs (X.suite a ((a, oe) :: pn)) (b1 :: suite) (ts a cls d)) (r : ClOk X hds l) :
      ClOk X (.ExceptHandler (some (.Name x np)) none (b1 :: suite) pos' :: hds) (⟨c, none, ts⟩ :: l)
  | as {x n : Str} {i : Nat} {c : Value} {ts : Addr → Value → Option Addr → TS} {b1 : Stmt} {suite : List Stmt} {np pos' : Pos} {hds : List ExceptHandler} {l : List Cl} (hi : X.N[i]? = some n) (hln : X.env.kindOf n = some .local) (hc : Names X x c)
      (hsu : ∀ (a : Addr) (oe : Obj) (cls : Value) (d : Option Addr) (pn : List (Addr × Obj)), Zc cls d oe → (∃ vs, oe.data = .fields vs) → PSs (X.suite a ((a, oe) :: pn)) (b1 :: suite) (ts a cls d)) (r : ClOk X hds l) :
      ClOk X (.ExceptHandler (some (.Name x np)) (some n) (b1 :: suite) pos' :: hds) (⟨c, some i, ts⟩ :: l)
section
variable {X : Cx} {body : List Stmt} {hd0 : ExceptHandler} {hds : List ExceptHandler} {l : List Cl} {pos : Pos} {tb : WX → TS} {Wout : WX} {pins : List (Addr × Obj)} {s : Shared} {D : Ends}
/-- behind a suite: its end, the name gone -/
theorem sp_unsuite {a : Addr} {q : Addr × Obj} {f : Flow} (ok : X.Ok) (h : SP (X.suite a (q :: (X.pn ++ pins))) [] D f s) : SP X pins D f s := by
  cases f with
  | next =>
    obtain ⟨t, h1, J, z⟩ := h
    exact ⟨t, h1, J.unsuite ok, z⟩
  | brk =>
    obtain ⟨t, h1, J, z⟩ := h
    exact ⟨t, h1, J.unsuite ok, z⟩
  | cont =>
    obtain ⟨t, h1, J, z⟩ := h
    exact ⟨t, h1, J.unsuite ok, z⟩
  | ret u =>
    obtain ⟨v, t, h1, J, r, z⟩ := h
    exact ⟨v, t, h1, J.unsuite ok, r, z⟩
theorem sp_gone {n : Str} {i : Nat} {f : Flow} {pos' : Pos} (hN : X.N.Nodup) (hi : X.N[i]? = some n) (hln : X.env.kindOf n = some .local) (h : SP X pins (D.drop i) f s) :
    wpAny (model X.prog X.w) X.A (do bindName X.env n .none; unbindBehindTheSuite X.env n pos') (fun _ s7 => SP X pins D f s7) X.xe s := by
  cases f with
  | next =>
    obtain ⟨t, h1, J, z⟩ := h
    exact gone_ok J hN hi hln fun s7 J7 => ⟨_, _, J7, z⟩
  | brk =>
    obtain ⟨t, h1, J, z⟩ := h
    exact gone_ok J hN hi hln fun s7 J7 => ⟨_, _, J7, z⟩
  | cont =>
    obtain ⟨t, h1, J, z⟩ := h
    exact gone_ok J hN hi hln fun s7 J7 => ⟨_, _, J7, z⟩
  | ret u =>
    obtain ⟨v, t, h1, J, r, z⟩ := h
    exact gone_ok J hN hi hln fun s7 J7 => ⟨_, _, _, J7, r, z⟩
theorem names_ld {a : Addr} {oe : Obj} {pn : List (Addr × Obj)} {σ : St} {H : Hp} {x : Str} {c : Value} {np : Pos} (S : Inv (X.suite a ((a, oe) :: pn)) [] σ H s) (hc : Names X x c) {Q : Value → Shared → Prop} {E : Value → Shared → Prop} (q : Q c s) :
    wpAny (model X.prog X.w) (X.A.mark (some (.ref a))) (eval (.Name x np) X.env) Q E s := by
  obtain ⟨h1, h2, h3⟩ := hc
  rcases h3 with h3 | ⟨h3, h4, h5⟩
  · exact ld_glob (X := X.suite a ((a, oe) :: pn)) S h1 h3 q h2
  · exact ld_blt (X := X.suite a ((a, oe) :: pn)) S h1 h3 h4 q h5 h2
theorem ps_tryC (hs : X.stack = X.env :: X.outer) (hf : X.env.frame = some X.env.locals) (hN : X.N.Nodup) (tk : Takes X Wout)
    (hb : ∀ (W : WX) (pn : List (Addr × Obj)) (xe : Value → Shared → Prop), Takes (X.tr pn xe) W → PassesOwn (model X.prog X.w) X.A X.env xe → PSs (X.tr pn xe) body (tb W))
    (hh : ClOk X (hd0 :: hds) l) : PS X (.Try body (hd0 :: hds) [] [] pos) (fun D σ H => tb (wCl X.K Wout D l) D σ H) := by
  refine ⟨fun pins s σ H D I h => ?_⟩
  have ok := I.ok
  have hfr : X.A.frames = some (X.env :: X.outer) := ok.frames.trans (congrArg some hs)
  refine wpAny_Try_except (wpAny_mono ((hb (wCl X.K Wout D l) (X.pn ++ pins) _ (fun u s' xx => ?_) PassesOwn.looking).run [] s σ H D (I.toTry _) h) (fun fl s1 hsp => ?_) fun e s1 he => he)
  · -- an exception has come
    obtain ⟨a, B, sI, pins', σ', H', cls, d, rfl, J0, nb, up, sky, na, os, ag, w⟩ := xx
    have J : Inv X pins σ' H' sI := J0.ofTry ok
    rw [hs] at sky
    show wpAny (model X.prog X.w) X.A (noteFrame (.ref a) X.env) _ _ _
    refine Sky.land Zc.steady hfr hf sky fun h3 fl3 up3 => ?_
    have J3 : Inv X pins σ' H' { s' with heap := h3 } := J.landed nb fl3.1 (up.trans up3) os ag
    obtain ⟨oe3, vs3, he3, hz3, hd3⟩ := fl3.there
    have ff := fl3.2.2.1
    have away : ∀ b ∈ frs (X.env :: X.outer), a ≠ b := fun b hm z => by
      obtain ⟨_, o', e', hnf⟩ := ff.mem hm
      rw [← z, he3] at e'
      cases e'
      exact hnf _ hd3
    have nL : a ≠ X.env.locals := away _ (List.mem_filterMap.mpr ⟨X.env, List.mem_cons_self, hf⟩)
    have nF : a ∉ X.fs := fun hm => by
      obtain ⟨e, he, q⟩ := List.mem_filterMap.mp hm
      exact away a (List.mem_filterMap.mpr ⟨e, List.mem_cons_of_mem _ he, q⟩) rfl
    have S3 := J3.suite he3 hd3 na nL nF
    have LT : PySem.W.Looks (model X.prog X.w) h3 (typeOf (.ref a)) cls := fun A Q E s k q => wpAny_typeOf_ref (k _ _ he3) (by rw [hz3.1]; exact q)
    have test : ∀ {x : Str} {c : Value} {np : Pos}, Names X x c → ∀ {Q : Value → Shared → Prop} {E : Value → Shared → Prop}, Q c { s' with heap := h3 } → wpAny (model X.prog X.w) (X.A.mark (some (.ref a))) (eval (.Name x np) X.env) Q E { s' with heap := h3 } := fun hc => names_ld S3 hc
    have go : ∀ {hs2 : List ExceptHandler} {l2 : List Cl}, ClOk X hs2 l2 → wCl X.K Wout D l2 cls d σ' H' →
        wpAny (model X.prog X.w) X.A (handleBy (.ref a) X.env hs2) (SP X pins D) X.xe { s' with heap := h3 } := by
      intro hs2 l2 hk
      induction hk with
      | nil =>
        intro w
        refine wpAny_handleBy_nil ?_
        obtain ⟨_, _, _, oe, vs, T, oT, ts', he, hz, hd, h1, hr⟩ := id fl3
        unfold PySem.passOn
        refine wpAny_bind (wpAny_field he hd h1 ?_)
        rw [if_neg (show ¬ ((Value.ref T == Value.none) = true) from by simp)]
        have fin : wpAny (model X.prog X.w) X.A (setFlight (.ref a) X.env.frame) (fun _ s4 => wpAny (model X.prog X.w) X.A (throw (.ref a) : Sem Flow) (SP X pins D) X.xe s4) X.xe { s' with heap := h3 } := by
          rw [hf]
          exact HandSPX.setFlight_upZ fl3 fun h4 hh4 up4 => wpAny_throw (tk _ _ ⟨a, B, sI, pins, σ', H', cls, d, rfl, J, nb, (up.trans up3).trans up4, .inr (.inr (by rw [hs]; exact hh4)), na, os, ag, w⟩)
        first
          | exact wpAny_bind (wpAny_pure (wpAny_bind fin))
          | exact wpAny_bind fin
      | @un x c ts b1 suite np pos' hds2 l2 hc hsu r ih =>
        intro ⟨b, hb1, hyes, hno⟩
        refine wpAny_handleBy_cons (codeAny_handlers_test (test hc ((PySem.W.exm_one (M := model X.prog X.w) J3.kIn LT hb1).here ?_))) (by intro q; cases q)
        cases b with
        | false => exact ih (hno rfl)
        | true =>
          refine codeAny_handlers_suite (HandSPX.lands_againZ fl3 fun h4 fl4 up4 => ?_)
          have J4 : Inv X pins σ' H' { s' with heap := h4 } := J.landed nb fl4.1 ((up.trans up3).trans up4) os ag
          obtain ⟨oe4, vs4, he4, hz4, hd4⟩ := fl4.there
          exact wpAny_mono ((hsu a oe4 cls d (X.pn ++ pins) hz4 ⟨_, hd4⟩).run [] _ _ H' _ (J4.suite he4 hd4 na nL nF) (hyes rfl a na)) (fun f s6 hsp => sp_unsuite ok hsp) (fun _ _ z => False.elim z)
      | @as x n i c ts b1 suite np pos' hds2 l2 hi hln hc hsu r ih =>
        intro ⟨b, hb1, hyes, hno⟩
        refine wpAny_handleBy_cons (codeAny_handlers_test (test hc ((PySem.W.exm_one (M := model X.prog X.w) J3.kIn LT hb1).here ?_))) (by intro q; cases q)
        cases b with
        | false => exact ih (hno rfl)
        | true =>
          refine codeAny_handlers_suite_as (HandSPX.lands_againZ fl3 fun h4 fl4 up4 => ?_)
          have J4 : Inv X pins σ' H' { s' with heap := h4 } := J.landed nb fl4.1 ((up.trans up3).trans up4) os ag
          obtain ⟨oe4, vs4, he4, hz4, hd4⟩ := fl4.there
          refine store_ok (X := X.suite a ((a, oe4) :: (X.pn ++ pins))) (v := .ref a) (J4.suite he4 hd4 na nL nF) hN hi (.inl hln) rfl (fun s5 S5 => ?_) (.inr hln)
          have hil : i < σ'.length := by rw [J.len]; exact (List.getElem?_eq_some_iff.mp hi).1
          exact wpAny_mono ((hsu a oe4 cls d (X.pn ++ pins) hz4 ⟨_, hd4⟩).run [] s5 _ H' _ S5 (hyes rfl a na hil)) (fun f s6 hsp => sp_gone hN hi hln (sp_unsuite ok hsp)) (fun _ _ z => False.elim z)
    exact go hh w
  · cases fl with
    | next =>
      obtain ⟨t, h1, J', q⟩ := hsp
      exact wpAny_execs_nil ⟨t, h1, J'.ofTry ok, q⟩
    | brk =>
      obtain ⟨t, h1, J', q⟩ := hsp
      exact ⟨t, h1, J'.ofTry ok, q⟩
    | cont =>
      obtain ⟨t, h1, J', q⟩ := hsp
      exact ⟨t, h1, J'.ofTry ok, q⟩
    | ret u =>
      obtain ⟨v, t, h1, J', r, q⟩ := hsp
      exact ⟨v, t, h1, J'.ofTry ok, r, q⟩
end
end L2

set_option Elab.async false
set_option linter.all false
set_option maxRecDepth 100000
set_option maxHeartbeats 4000000
/-! SaidKit: what a lambda handed over tells, or which of two errors it raises, as a pair. -/
namespace L2
open PySem PySem.Spec PyProof.Rows EK LamX
/-- an error of cls with its dict d: of the class at C, its one value told as (m, value) -/
def errTold (C : Addr) (f m : Str) (Q : VK) : XK := fun cls d H => cls = .ref C ∧ ∃ (dd : Addr) (v : V), d = some dd ∧ H dd = some (.xd [(f, v)]) ∧ ∀ p, H p = none → Q (.ref p) (upd H p (.tup [.str m, v]))
def wSaid (K : PySem.W.Frag) (C1 C2 : Addr) (f1 f2 m1 m2 : Str) (Q : VK) : XK := fun cls d H => ∃ b1, PySem.W.exmOne K cls (.ref C1) = some b1 ∧ (b1 = true → errTold C1 f1 m1 Q cls d H) ∧
  (b1 = false → ∃ b2, PySem.W.exmOne K cls (.ref C2) = some b2 ∧ (b2 = true → errTold C2 f2 m2 Q cls d H) ∧ (b2 = false → False))
def TSaid (K : PySem.W.Frag) (C1 C2 : Addr) (f1 f2 m1 m2 : Str) : (XK → Hp → VK → Prop) → Hp → VK → Prop := fun tl H Q =>
  tl (wSaid K C1 C2 f1 f2 m1 m2 Q) H fun v H1 => [V.str "told", v].length ≤ sizeLine ∧ ∀ p, H1 p = none → Q (.ref p) (upd H1 p (.tup [.str "told", v]))
theorem said_gives {X : Cx} {Ng : List Str} {x a e1 e2 n1 n2 q f1 f2 m1 m2 : Str} {sg : Scope} {g C1 C2 : Addr} {cdg : Value} {j0 j1 j2 : Nat} {p1 p2 p3 p4 p5 p6 p7 p8 a1 a2 a3 a4 a5 a6 a7 b1 b2 b3 b4 b5 b6 b7 c1 c2 : Pos} {k0 k1 k2 : Nat} {mz : Value}
    (hN : Ng.Nodup) (hn1 : Ng[1]? = some n1) (hl1 : sg.names.lookup n1 = some .local) (hn2 : Ng[1]? = some n2)
    (ge1 : sg.names.lookup e1 = some .globalImplicit) (hm1 : X.mg e1 = some (.ref C1)) (de1 : (e1 == ("__debug__" : Str)) = false)
    (ge2 : sg.names.lookup e2 = some .globalImplicit) (hm2 : X.mg e2 = some (.ref C2)) (de2 : (e2 == ("__debug__" : Str)) = false)
    (T1 : XfC X.K C1) (T2 : XfC X.K C2) (no1 : PySem.W.findIn X.K (.ref C1) f1 = some none) (no2 : PySem.W.findIn X.K (.ref C2) f2 = some none) (dn : (n1 == ("__debug__" : Str)) = false) (cn : (n1 == ("__classdict__" : Str)) = false) (sk : sg.kind = .function)
    (h0 : ∀ f : Addr, (L2.start Ng [V.ref f])[0]? = some (some (V.ref f))) (hz1 : ∀ f : Addr, (L2.start Ng [V.ref f])[1]? = some none) :
    GivesTo X Ng x sg g cdg [.Try [.Return (some (.Tuple [.Constant (.str "told") j0 p1, .Call (.Name a p2) [] [] p3] k0 p4)) p5]
      [.ExceptHandler (some (.Name e1 a1)) (some n1) [.Return (some (.Tuple [.Constant (.str m1) j1 a2, .Attribute (.Name n1 a3) f1 a4] k1 a5)) a6] a7,
       .ExceptHandler (some (.Name e2 b1)) (some n2) [.Return (some (.Tuple [.Constant (.str m2) j2 b2, .Attribute (.Name n2 b3) f2 b4] k2 b5)) b6] b7] [] [] p8] a q (TSaid X.K C1 C2 f1 f2 m1 m2) := by
  obtain rfl : n1 = n2 := Option.some.inj (hn1.symm.trans hn2)
  intro f c' s H Q tl act hc h
  have hlen : 1 < (L2.start Ng [V.ref f]).length := by
    have z := hz1 f
    exact (List.getElem?_eq_some_iff.mp z).1
  have gl1 : Gl (cxOf C8.CX0 X.prog X.w X.K X.mg X.base Ng x sg g cdg X.A X.stack s H C8.E0).nox e1 := ge1
  have gl2 : Gl (cxOf C8.CX0 X.prog X.w X.K X.mg X.base Ng x sg g cdg X.A X.stack s H C8.E0).nox e2 := ge2
  refine ⟨_, pss_one (ps_tryC (X := (cxOf C8.CX0 X.prog X.w X.K X.mg X.base Ng x sg g cdg X.A X.stack s H C8.E0).nox)
      (tb := fun W D σ H => ∃ Ech : XK, (∀ cls d σ' H', Ech cls d H' → W cls d σ' H') ∧ σ[0]? = some (some (.ref f)) ∧ H c' = some (CodeO c' q) ∧ tl Ech H (fun v H1 => [V.str "told", v].length ≤ sizeLine ∧ ∀ p, H1 p = none → D.rt (.ref p) (upd H1 p (.tup [.str "told", v]))))
      (l := [⟨.ref C1, some 1, fun a cls d => tRet (tTup (tCons (tC (.str m1)) (tCons (tXf a cls d C1 f1 (tVar 1)) tNil)))⟩, ⟨.ref C2, some 1, fun a cls d => tRet (tTup (tCons (tC (.str m2)) (tCons (tXf a cls d C2 f2 (tVar 1)) tNil)))⟩])
      rfl rfl hN takes0 (fun W pn xe tk _ => ?_)
      (ClOk.as hn1 (by show Env.kindOf _ n1 = some NameKind.local; exact hl1) ⟨gl1, de1, .inl hm1⟩ (fun a oe cls d pn hz hf => pss_one (ps_ret (pe_tup (pa_cons pe_str (pa_cons (pe_xf T1 no1 hz hf (pe_var (i := 1) hn1 (Or.inl hl1) dn cn)) pa_nil)))))
        (ClOk.as hn1 (by show Env.kindOf _ n1 = some NameKind.local; exact hl1) ⟨gl2, de2, .inl hm2⟩ (fun a oe cls d pn hz hf => pss_one (ps_ret (pe_tup (pa_cons pe_str (pa_cons (pe_xf T2 no2 hz hf (pe_var (i := 1) hn1 (Or.inl hl1) dn cn)) pa_nil))))) .nil))), ?_⟩
  · refine ⟨fun pins s' σ H' D I h' => ?_⟩
    obtain ⟨Ech, hW, h1, h2, h3⟩ := h'
    have hp := act W pn xe Ech p2 p3 tk hW
    have hq : PSs ((cxOf C8.CX0 X.prog X.w X.K X.mg X.base Ng x sg g cdg X.A X.stack s H C8.E0).tr pn xe) [.Return (some (.Tuple [.Constant (.str "told") j0 p1, .Call (.Name a p2) [] [] p3] k0 p4)) p5] _ := pss_one (ps_ret (pe_tup (pa_cons pe_str (pa_cons hp pa_nil))))
    exact hq.run pins s' σ H' D I ⟨h1, h2, h3⟩
  · have hset : ∀ (σ : L2.St) (y : V), 1 < σ.length → (σ.set 1 (some y))[1]? = some (some y) := fun σ y h => by rw [List.getElem?_set_self h]
    have two : ∀ x y : V, [x, y].length ≤ sizeLine := fun x y => by show 2 ≤ sizeLine; decide
    refine ⟨wSaid X.K C1 C2 f1 f2 m1 m2 Q, fun cls d σ' H' ⟨b1, e1, y1, z1⟩ => ⟨b1, e1, fun hb a ha hl => ?_, fun hb => ?_⟩, h0 f, hc, h⟩
    · obtain ⟨ec, dd, v, ed, hd, q⟩ := y1 hb
      exact ⟨_, hset _ _ hl, rfl, ec, dd, _, v, ed, hd, look1 _ _, two _ _, q⟩
    · obtain ⟨b2, e2, y2, z2⟩ := z1 hb
      refine ⟨b2, e2, fun hb2 a ha hl => ?_, fun hb2 => z2 hb2⟩
      obtain ⟨ec, dd, v, ed, hd, q⟩ := y2 hb2
      exact ⟨_, hset _ _ hl, rfl, ec, dd, _, v, ed, hd, look1 _ _, two _ _, q⟩
end L2

set_option Elab.async false
set_option linter.all false
set_option maxRecDepth 100000
set_option maxHeartbeats 4000000
/-! KeyKit: sorted(range(..), key=lambda i: text[i:]), the text a captured name. -/
namespace L2
open PySem PySem.Spec PyProof.Rows LamX
/-- the suffix of z from i on -/
def sufS (z : Str) (i : Int) : Str := cutS z (some i) none
theorem made_cut {z : Str} {t : Tok} {i : Int} {ti : Tok} {R : Value → Shared → Prop} {s : Shared} (hz : z.length ≤ sizeLine) (k : ∀ tk, R (.str (sufS z i) tk) { s with toks := s.toks } ∧ R (.str (sufS z i) tk) { s with toks := s.toks + 1 }) :
    (sliceMade z t (some (i, ti)) none none).post R s := by
  have hl : (PySem.StrLaws.sliceText z (some i) none).length ≤ sizeLine := by
    rw [sliceText_cut]
    exact Nat.le_trans (cutS_length z _ _) hz
  have e : sufS z i = PySem.StrLaws.sliceText z (some i) none := (sliceText_cut z (some i) none).symm
  rw [e] at k
  unfold PySem.StrLaws.sliceText at k hl
  show Made.post (if ((1 : Int) == 1 && (Builtin.Str.strSliceIndices (some i) none 1 z.length).length == z.length) = true then Made.val (.str z t)
    else Made.str ⟨((Builtin.Str.strSliceIndices (some i) none 1 z.length).filterMap (z.cps[·]?)).toArray⟩) R s
  by_cases c : ((1 : Int) == 1 && (Builtin.Str.strSliceIndices (some i) none 1 z.length).length == z.length) = true
  · rw [if_pos c] at k ⊢
    exact (k t).1
  · rw [if_neg c] at k hl ⊢
    exact ⟨hl, (k _).2⟩
/-- the lambda's own scope: one parameter, captured names -/
structure KeyScope (scope : Scope) (pl tx : Str) : Prop where
  kind : scope.kind = .function
  co : scope.isCoroutine = false
  gen : scope.isGenerator = false
  noCell : ∀ y ∈ scope.names, y.2 ≠ .cell
  par : scope.names.lookup pl = some .local
  cap : scope.names.lookup tx = some .free
def keyScB (scope : Scope) (pl tx : Str) : Bool := decide (scope.kind = .function) && !scope.isCoroutine && !scope.isGenerator && scope.names.all (fun y => !decide (y.2 = .cell)) && decide (scope.names.lookup pl = some .local) && decide (scope.names.lookup tx = some .free)
theorem keySc_by {scope : Scope} {pl tx : Str} (h : keyScB scope pl tx = true) : KeyScope scope pl tx := by
  unfold keyScB at h
  simp only [Bool.and_eq_true, Bool.not_eq_true', decide_eq_true_eq, List.all_eq_true, decide_eq_false_iff_not] at h
  obtain ⟨⟨⟨⟨⟨h1, h2⟩, h3⟩, h4⟩, h5⟩, h6⟩ := h
  exact ⟨h1, h2, h3, h4, h5, h6⟩
section
variable {prog : Program} {w : World} {A : Around} {s : Shared}
/-- one call of the key -/
theorem key_call {f c' c : Addr} {q : Str} {params : Arguments} {scope : Scope} {cl : List (Str × Addr)} {pm ctv : Value} {pl tx : Str} {p1 p2 p3 p4 : Pos} {z : Str} {tz ti : Tok} {i : Int} (KS : KeyScope scope pl tx) (hd : A.depth < recursionLimit)
    (of : s.heap.get? f = some (PySem.W.kla_obj "<lambda>" q params (.Subscript (.Name tx p1) (.Slice (some (.Name pl p2)) none none p3) p4) scope cl pm c' ctv)) (hcd : s.heap.CodeRec (.ref c') q)
    (hbind : ∀ u : Value, bindArgs (PySem.W.kla_fn "<lambda>" q params (.Subscript (.Name tx p1) (.Slice (some (.Name pl p2)) none none p3) p4) scope cl pm (.ref c') ctv) ⟨[u], []⟩ = pure [(pl, u)])
    (hcl : cl.lookup tx = some c) (hcell : s.heap.IsCell c (some (.str z tz))) (hz : z.length ≤ sizeLine) (nl : s.heap.NoLimit)
    (d1 : (tx == ("__debug__" : Str)) = false := by decide) (d2 : (pl == ("__debug__" : Str)) = false := by decide) (d3 : (tx == ("__classdict__" : Str)) = false := by decide) :
    wpAny (model prog w) A (call (.ref f) [.int i ti]) (PySem.W.KeyPure (.str (sufS z i)) s) (fun _ _ => False) s := by
  refine wpAny_call (codeAny_mono (R := fun r s' => ∃ v, r = .ok (.ret v) ∧ PySem.W.KeyPure (.str (sufS z i)) s v s') ?_ fun r s' hq => ?_)
  · refine PySem.W.kla_callFunE hd of rfl KS.co KS.gen rfl hcd ?_
    rw [hbind]
    refine wpAny_pure (wpAny_newFunctionEnv KS.noCell (fun y hy => by rw [List.mem_singleton.mp hy]; exact KS.par) (fun h₁ hns hsb => ⟨nl.fresh _ hsb, ?_⟩) KS.kind)
    have kp : ∀ b o, s.heap.get? b = some o → h₁.get? b = some o := fun b o e => hsb.extBut b o (Nat.ne_of_lt (Heap.lt_size e)) (Heap.get?_push_of_some _ e)
    have cell1 : h₁.IsCell c (some (.str z tz)) := by
      obtain ⟨o, ho, hdd⟩ := hcell
      exact ⟨o, kp _ _ ho, hdd⟩
    refine PySem.W.kla_codeExpr ?_
    refine wpAny_Subscript_str_slice (wpAny_Name (wpAny_loadName_free KS.kind KS.cap hcl cell1 ?_ d3) d1)
    refine evalPart_some_step (wpAny_Name (wpAny_loadName_local KS.kind KS.par hns (v := .int i ti) (by simp) ?_) d2)
    refine evalPart_none_step ⟨z, tz, some (i, ti), none, rfl, rfl, rfl, made_cut hz fun tk => ⟨⟨_, rfl, _, _, rfl, fun b o e => Heap.get?_push_of_some _ (kp _ _ e), .str _ _⟩, ⟨_, rfl, _, _, rfl, fun b o e => Heap.get?_push_of_some _ (kp _ _ e), .str _ _⟩⟩⟩
  · obtain ⟨v, rfl, k⟩ := hq
    exact k
end
end L2
namespace L2
open PySem PySem.Spec PyProof.Rows LamX NdefX
/-- a lambda's function object at f -/
def LamO (f : Addr) (F : NF) (e : Expr) : HO := .ext fun h => ∃ pm ctv : Value, h.get? f = some (PySem.W.kla_obj "<lambda>" F.qual F.params e F.scope F.cl pm F.c ctv)
section
variable {X : Cx} {pins : List (Addr × Obj)} {σ : L2.St} {H : Hp} {s : Shared}
theorem inv_lam {F : NF} {e : Expr} {t' : Nat} {pm ctv : Value} (I : Inv X pins σ H s) :
    Inv X pins σ (upd H s.heap.objs.size (LamO s.heap.objs.size F e)) { s with heap := s.heap.push (PySem.W.kla_obj "<lambda>" F.qual F.params e F.scope F.cl pm F.c ctv), toks := t' } := by
  refine I.laid (a := s.heap.objs.size) (fun b u q => Heap.get?_push_of_some _ q) (Nat.le_refl _) ?_
  have g : (s.heap.push (PySem.W.kla_obj "<lambda>" F.qual F.params e F.scope F.cl pm F.c ctv)).get? s.heap.objs.size = some (PySem.W.kla_obj "<lambda>" F.qual F.params e F.scope F.cl pm F.c ctv) := Heap.get?_push_size _ rfl
  exact ⟨⟨pm, ctv, g⟩, ⟨_, g⟩, fun h1 h2 ⟨p, t, z⟩ st => ⟨p, t, st _ z⟩⟩
/-- a lambda is made, its object known -/
theorem lam_make3 {T : List (Addr × Str)} {cc P : Addr} {ar : Arguments} {bd : Expr} {sc : Scope} {pos : Pos} {E : Value → Shared → Prop} {R : Value → Shared → Prop} (I : Inv X pins σ H s) (TB : TabB X.base X.mg cc P) (hcode : X.env.code = .ref cc)
    (hm : (P, X.env.qual ++ "<lambda>") ∈ T) (hu : ∀ p ∈ T, p.1 = P → p.2 = X.env.qual ++ "<lambda>") (hT : Tabs T H) (hdef : defaultsOf ar X.env = ([], [])) (hfr : ∀ y ∈ sc.names, y.2 = .free → ∃ c, X.env.cells.lookup y.1 = some c)
    (kk : ∀ (f c' : Addr) (H1 : Hp) (s' : Shared), Inv X pins σ H1 s' → ExtN H H1 → (∀ b, H1 b = Option.none → H b = Option.none) → Tabs T H1 → H f = none →
      H1 f = some (LamO f ⟨"<lambda>", X.env.qual ++ "<lambda>", ar, [], sc, cloFrom X.env.cells sc.names [], c'⟩ bd) → H1 c' = some (CodeO c' (X.env.qual ++ "<lambda>")) → (∀ b o, s.heap.get? b = some o → o.cls ≠ .none → s'.heap.get? b = some o) → R (.ref f) s') :
    wpAny (model X.prog X.w) X.A (eval (.Lambda ar bd sc pos) X.env) R E s := by
  obtain ⟨ps, gP, tr, am⟩ := hT _ hm
  refine PySem.W.kla_eval hdef ?_
  have bP : s.heap.BuiltinsAt X.mg P := TB.bm.keeps I.bk
  have gP' : s.heap.get? P = some { cls := .none, data := .fields ps } := I.hok P _ gP
  cases hc : codeAmong pos ps.toList with
  | none =>
    refine PySem.W.kla_makeFunction (mg := X.mg) (c := cc) (P := P) (ps := ps) (closure_ok hfr) I.ok.glob (I.mod.glob.keeps I.bk) hcode (TB.code.keeps I.bk) gP' tr hc TB.gP bP fun c' ctv h' tk hx hge hlt hrec htb => ?_
    obtain ⟨c2, oc, vs, t, e2, goc, hd, hv⟩ := hrec
    cases e2
    have nC : H c' = none := I.hok.fresh hge
    have J := inv_table (t' := tk) (more := #[rawInt pos.line, rawInt pos.col, .ref c']) (h' := h') I gP (fun b o hb q => hx b o hb q) htb hge ⟨oc, vs, t, goc, hd, hv⟩
    have ex : ExtN H (upd (upd H P (.tbl (ps ++ #[rawInt pos.line, rawInt pos.col, .ref c']))) c' (CodeO c' (X.env.qual ++ "<lambda>"))) := fun b o q nt => by
      rw [upd_ne (ne_of_none q nC), upd_ne (fun z => nt ps (Option.some.inj (q.symm.trans (by rw [z]; exact gP))))]; exact q
    have el : (ps ++ #[rawInt pos.line, rawInt pos.col, .ref c']).toList = ps.toList ++ [rawInt pos.line, rawInt pos.col, .ref c'] := by simp
    have T1 : Tabs T (upd (upd H P (.tbl (ps ++ #[rawInt pos.line, rawInt pos.col, .ref c']))) c' (CodeO c' (X.env.qual ++ "<lambda>"))) := fun p hp => by
      by_cases hb : p.1 = P
      · rw [hu p hp hb, hb]
        refine ⟨_, by rw [upd_ne (ne_of_none gP nC), upd_same], by rw [el]; exact PySem.TriplesOk_snoc _ _ _ _ tr, fun p' cv hcv => ?_⟩
        rw [el] at hcv
        rcases among_app _ tr hcv with z | z
        · obtain ⟨c0, q1, q2⟩ := am p' cv z; exact ⟨c0, q1, ex _ _ q2 codeO_ne⟩
        · exact ⟨c', z, upd_same⟩
      · obtain ⟨ps', a1, a2, a3⟩ := hT p hp
        refine ⟨ps', by rw [upd_ne (ne_of_none a1 nC), upd_ne hb]; exact a1, a2, fun p' cv hcv => ?_⟩
        obtain ⟨c0, q1, q2⟩ := a3 p' cv hcv; exact ⟨c0, q1, ex _ _ q2 codeO_ne⟩
    have nF := J.hok.fresh (Nat.le_refl _)
    have J2 := inv_lam (F := ⟨"<lambda>", X.env.qual ++ "<lambda>", ar, [], sc, cloFrom X.env.cells sc.names [], c'⟩) (e := bd) (t' := tk) (pm := (X.mg "__name__").getD .none) (ctv := ctv) J
    refine kk h'.objs.size c' _ _ J2 (fun b o q n => (upd_ne (ne_of_none (ex b o q n) nF)).trans (ex b o q n)) (fun b q => upd_none (upd_none (upd_none q))) (T1.ext fun b o q => (upd_ne (ne_of_none q nF)).trans q) (I.hok.fresh (Nat.le_trans hge (Nat.le_of_lt hlt))) upd_same ?_ ?_
    · exact (upd_ne (Nat.ne_of_lt hlt)).trans upd_same
    · exact fun b o q nc => Heap.get?_push_of_some _ (hx b o (fun z => by rw [z, gP'] at q; cases q; exact nc rfl) q)
  | some cv =>
    obtain ⟨c', q, gc⟩ := am pos cv hc
    subst q
    refine PySem.W.kla_makeFunctionHit (mg := X.mg) (c := cc) (P := P) (ps := ps) (closure_ok hfr) I.ok.glob (I.mod.glob.keeps I.bk) hcode (TB.code.keeps I.bk) gP' tr hc bP fun ctv h' tk hx hsz => ?_
    have J : Inv X pins σ H { s with heap := h', toks := tk } := I.kept hx
    have nF : H h'.objs.size = none := J.hok.fresh (Nat.le_refl _)
    have J2 := inv_lam (F := ⟨"<lambda>", X.env.qual ++ "<lambda>", ar, [], sc, cloFrom X.env.cells sc.names [], c'⟩) (e := bd) (t' := tk) (pm := (X.mg "__name__").getD .none) (ctv := ctv) J
    refine kk h'.objs.size c' _ _ J2 (fun b o q n => (upd_ne (ne_of_none q nF)).trans q) (fun b q => upd_none q) (hT.ext fun b o q => (upd_ne (ne_of_none q nF)).trans q) nF upd_same ?_ ?_
    · exact (upd_ne (ne_of_none gc nF)).trans gc
    · exact fun b o q _ => Heap.get?_push_of_some _ (hx b o q)
end
section
variable {prog : Program} {w : World} {A : Around} {E : Value → Shared → Prop} {s : Shared}
/-- sorted(r, key=f), r a range -/
theorem sorted_rng_key {r f : Addr} {n : Nat} {t u v : Tok} {k : Int → PyData} {R : Value → Shared → Prop} (hh : A.handled = none) (gr : IsRange s.heap r 0 n 1 t u v) (hn : n ≤ 2 ^ 20)
    (hal : PySem.W.AllAlike (((List.range n).map fun i => (0 : Int) + (i : Nat) * 1).map k)) (hk : PySem.W.Sortable (((List.range n).map fun i => (0 : Int) + (i : Nat) * 1).map k)) (hu : ∀ x, A.units + 2 + (k x).depth < cLine)
    (turn : ∀ (x : Int) (tx : Tok) (h : Heap) (tk : Nat), (∀ b o, s.heap.get? b = some o → h.get? b = some o) →
      wpAny (model prog w) A.in1.in1 (call (.ref f) [.int x tx]) (PySem.W.KeyPure (k x) { s with heap := h, toks := tk }) (fun _ _ => False) { s with heap := h, toks := tk })
    (fin : ∀ (g0 : Heap) (tk0 : Nat) (out : List Value) (c : Nat) (h' : Heap) (tk : Nat), (∀ b o, s.heap.get? b = some o → g0.get? b = some o) → (∀ b o, g0.get? b = some o → h'.get? b = some o) → h'.get? g0.objs.size = some (seqObj "list" (List.toArray out) c) →
      Vals ((((List.range n).map fun i => (0 : Int) + (i : Nat) * 1).mergeSort (PySem.W.dataLe false k)).map V.int) out → R (.ref g0.objs.size) { s with heap := h', toks := tk }) :
    wpAny (model prog w) A (call (.builtin "sorted") [.ref r] [(Str.ofString "key", .ref f)]) R E s := by
  refine PyProof.Rows.call_function_entry_kw PyProof.Rows.kind_sorted PyProof.Rows.plain_sorted PyProof.Rows.entry_sorted (PyProof.Rows.ksk_s1 _ _) ?_
  unfold Builtin.«sorted»
  refine wpAny_bind (m := checkCount "sorted" 1 1 _) (wpAny_pure ?_)
  have hz : sizeLine = 2 ^ 24 := sizeLine_eq
  have hsm : Builtin.Range.small 0 (n : Int) 1 = true := small_one (by omega) (by omega) (by omega) (by omega)
  have hrs : Builtin.Range.rangeSize 0 (n : Int) 1 = (n : Nat) := by rw [PyProof.Rows.rangeSize_nat]; omega
  refine wpAny_bind (collect_range (A := A.in1) (n := n) hh gr hsm hrs (by omega) fun h' tk acc hkp hi => ?_)
  have hlen : acc.toList.length = n := by rw [Array.length_toList]; exact hi.1
  refine wpAny_bind (wpAny_newList ?_ (by omega))
  have e : PySem.W.EachIs (fun v x => RelV (V.int x) v) acc.toList ((List.range n).map fun i => (0 : Int) + (i : Nat) * 1) := by
    have rv : Vals (((List.range acc.toList.length).map fun i : Nat => V.int ((0 : Int) + (i : Nat) * 1))) acc.toList := vals_of_get acc.toList _ fun j u hj => by
      obtain ⟨t, rfl⟩ := hi.2 j u (by rw [← hj, Array.getElem?_toList])
      exact ⟨t, rfl⟩
    rw [hlen] at rv
    have ee : (List.range n).map (fun i : Nat => V.int ((0 : Int) + (i : Nat) * 1)) = ((List.range n).map fun i => (0 : Int) + (i : Nat) * 1).map V.int := by rw [List.map_map]; rfl
    rw [ee] at rv
    have conv : ∀ {xs : List Int} {us : List Value}, Vals (xs.map V.int) us → PySem.W.EachIs (fun v x => RelV (V.int x) v) us xs := fun {xs us} h => by
      induction xs generalizing us with
      | nil => cases h; exact .nil
      | cons x xs ih =>
        cases h with
        | cons h1 h2 => exact .cons h1 (ih h2)
    exact conv rv
  have ga : (h'.push (seqObj "list" acc.toList.toArray 0)).get? h'.objs.size = some (seqObj "list" acc.toList.toArray 0) := Heap.get?_push_size _ rfl
  have old0 : ∀ {g : Heap}, PySem.W.KeepsBut h'.objs.size (h'.push (seqObj "list" acc.toList.toArray 0)) g → ∀ b o, h'.get? b = some o → g.get? b = some o := fun {g} kp b o q => kp b o (Nat.ne_of_lt (Heap.lt_size q)) (Heap.get?_push_of_some _ q)
  have old : ∀ {g : Heap}, PySem.W.KeepsBut h'.objs.size (h'.push (seqObj "list" acc.toList.toArray 0)) g → ∀ b o, s.heap.get? b = some o → g.get? b = some o := fun {g} kp b o q => old0 kp b o (hkp _ _ q)
  show wpAny _ _ _ _ _ { s with heap := h'.push (seqObj "list" acc.toList.toArray 0), toks := tk }
  refine wpAny_bind (wpAny_holding (PySem.W.list_sort_key_data (A := A.in1) (b := false) (s := { s with heap := h'.push (seqObj "list" acc.toList.toArray 0), toks := tk }) (R := fun v x => RelV (V.int x) v) (bs := (List.range n).map fun i => (0 : Int) + (i : Nat) * 1) k ga e hal hk (by rw [List.length_map, List.length_range]; omega) (fun x _ => hu x) (PyProof.Rows.ksk_l1 _ _) (PyProof.Rows.ksk_t1 _ _)
    (fun v x hv _ g tk2 kp => by
      obtain ⟨tx, rfl⟩ := hv
      exact turn x tx g tk2 (old kp)) fun out c g tk2 kp go _ eo => ?_))
  have back : ∀ {xs : List Int} {us : List Value}, PySem.W.EachIs (fun v x => RelV (V.int x) v) us xs → Vals (xs.map V.int) us := fun {xs us} h => by
    induction h with
    | nil => exact .nil
    | cons h1 _ ih => exact .cons h1 ih
  exact wpAny_pure ⟨_, rfl, fin h' tk out c g tk2 hkp (old0 kp) go (back eo)⟩
end
end L2
namespace L2
open PySem PySem.Spec PyProof.Rows LamX NdefX
/-- suffixes of unlike places are unlike -/
def sufK (z : Str) (i : Int) : PyData := .str (sufS z i)
/-- the places of z's suffixes in their order -/
def ordM (z : Str) : List Int := isort (dle (sufK z)) ((List.range z.length).map fun i => (0 : Int) + (i : Nat) * 1)
theorem suf_len (z : Str) (i : Nat) (h : i ≤ z.length) : (sufS z (i : Int)).length = z.length - i := by
  unfold sufS cutS HT.sIx
  show (⟨_⟩ : Str).cps.size = _
  simp only [List.size_toArray, List.length_take, List.length_drop, Array.length_toList]
  show min (z.cps.size - (if (i : Int) < 0 then _ else min (i : Int).toNat z.cps.size)) (z.cps.size - (if (i : Int) < 0 then _ else min (i : Int).toNat z.cps.size)) = z.cps.size - i
  rw [if_neg (by omega), show ((i : Int)).toNat = i by omega]
  have h2 : i ≤ z.cps.size := h
  omega
theorem ord_sorted (z : Str) : ((List.range z.length).map fun i => (0 : Int) + (i : Nat) * 1).mergeSort (PySem.W.dataLe false (sufK z)) = ordM z := by
  refine msort_isort (dle (sufK z)) (dle_trans _) (dle_total _) _ fun x hx y hy a b => ?_
  obtain ⟨i, hi, rfl⟩ := List.mem_map.mp hx
  obtain ⟨j, hj, rfl⟩ := List.mem_map.mp hy
  have hi := List.mem_range.mp hi
  have hj := List.mem_range.mp hj
  have e := dle_anti a b
  simp only [sufK, PySem.W.keyToks, List.cons.injEq, Sum.inr.injEq, and_true] at e
  have e2 := congrArg List.length e
  rw [Array.length_toList, Array.length_toList] at e2
  have l1 := suf_len z i (by omega)
  have l2 := suf_len z j (by omega)
  have e3 : (sufS z ((0 : Int) + (i : Nat) * 1)).length = (sufS z ((0 : Int) + (j : Nat) * 1)).length := e2
  rw [show ((0 : Int) + (i : Nat) * 1) = ((i : Nat) : Int) by omega, show ((0 : Int) + (j : Nat) * 1) = ((j : Nat) : Int) by omega, l1, l2] at e3
  omega
section
variable {X : Cx}
def tSufSort (T : List (Addr × Str)) (j : Nat) (te : St → Hp → (Int → Int → Hp → Prop) → Prop) : TE := fun σ H Q => te σ H fun a b H1 => ∃ z : Str, σ[j]? = some (some (.str z)) ∧ a = 0 ∧ b = ((z.length : Nat) : Int) ∧ z.length ≤ 1000 ∧ Tabs T H1 ∧
  ∀ (p : Addr) (H2 : Hp), ExtN H1 H2 → (∀ b, H2 b = none → H1 b = none) → Tabs T H2 → H2 p = some (.lst ((ordM z).map V.int)) → H1 p = none → Q (.ref p) H2
/-- sorted(range(..), key=lambda i: text[i:]) -/
theorem pe_sortSuf {T : List (Addr × Str)} {cc P : Addr} {ar : Arguments} {sc : Scope} {pl tx : Str} {e : Expr} {te : St → Hp → (Int → Int → Hp → Prop) → Prop} {j k : Nat} {p pos kpos lpos p1 p2 p3 p4 : Pos} (hc : X.calm = true) (hr : Room (k + 1) X.A)
    (hg : Gl X "sorted") (hm : X.mg "sorted" = none) (he : PRg X e te) (TB : TabB X.base X.mg cc P) (hcode : X.env.code = .ref cc) (hmT : (P, X.env.qual ++ "<lambda>") ∈ T) (hu : ∀ p ∈ T, p.1 = P → p.2 = X.env.qual ++ "<lambda>")
    (KS : KeyScope sc pl tx) (hdef : defaultsOf ar X.env = ([], [])) (hfree : ∀ y ∈ sc.names, y.2 = .free → X.env.scope.names.lookup y.1 = some .cell ∨ X.env.scope.names.lookup y.1 = some .free)
    (hbind : ∀ (q : Str) (cl : List (Str × Addr)) (pm cv ctv u : Value), bindArgs (PySem.W.kla_fn "<lambda>" q ar (.Subscript (.Name tx p1) (.Slice (some (.Name pl p2)) none none p3) p4) sc cl pm cv ctv) ⟨[u], []⟩ = pure [(pl, u)])
    (hN : X.N[j]? = some tx) (na : starEach [e] X.env = (false, eval e X.env) :: starEach [] X.env := by rfl)
    (d1 : (tx == ("__debug__" : Str)) = false := by decide) (d2 : (pl == ("__debug__" : Str)) = false := by decide) (d3 : (tx == ("__classdict__" : Str)) = false := by decide)
    (hb1 : backTo pos (starEach [e] X.env) = (false, eval e X.env) :: backTo pos (starEach [] X.env) := by rfl) (hb2 : (backTo pos (starEach [e] X.env)).any (·.1) = false := by rfl)
    (hb3 : ∀ l : Expr, (backToKw pos (keywordEach [⟨some "key", l, kpos⟩] X.env)).all (·.1.isSome) = true := by intro _; rfl) (hb4 : ∀ l : Expr, (backToKw pos (keywordEach [⟨some "key", l, kpos⟩] X.env)).any (·.1.isNone) = false := by intro _; rfl)
    (hb5 : ∀ l : Expr, (backToKw pos (keywordEach [⟨some "key", l, kpos⟩] X.env)).filterMap (·.1) = [("key" : Str)] := by intro _; rfl) :
    PE X (.Call (.Name "sorted" p) [e] [⟨some "key", .Lambda ar (.Subscript (.Name tx p1) (.Slice (some (.Name pl p2)) none none p3) p4) sc lpos, kpos⟩] pos) (tSufSort T j te) := by
  refine ⟨fun pins s σ H Q I h => ?_⟩
  refine wpAny_Call_Name_kw (ld_blt I hg hm PyProof.Rows.boot_sorted ?_)
  refine PyProof.Rows.callWith_kw (args_cons (thn (he pins s σ H _ I h) fun x s1 ⟨r, a, b, t, u, v, H1, ex, gr, I1, q1⟩ => args_nil ?_) na) hb1 hb2 (hb3 _) (hb4 _)
  obtain ⟨z, hσ, rfl, rfl, hz, hT, q⟩ := q1
  subst ex
  rw [hb5]
  show wpAny _ _ (evalAll ((do let v ← eval (.Lambda ar (.Subscript (.Name tx p1) (.Slice (some (.Name pl p2)) none none p3) p4) sc lpos) X.env; standAt pos; pure v) :: [])) _ _ s1
  have hcells : ∀ y ∈ sc.names, y.2 = .free → ∃ c, X.env.cells.lookup y.1 = some c := fun y hy e => (hfree y hy e).elim (fun z => I.ok.has _ (.inl z)) fun z => I.ok.has _ (.inr z)
  refine wpAny_evalAll_cons (wpAny_bind (lam_make3 I1 TB hcode hmT hu hT hdef hcells fun f c' H2 s2 I2 ex2 mn T2 nf gf gc kps => wpAny_bind (wpAny_standAt (wpAny_pure (wpAny_pure ?_)))))
  have gr2 : IsRange s2.heap r 0 ((z.length : Nat) : Int) 1 t u v := kps _ _ gr (by intro q; cases q)
  have hz1 : sizeLine = 2 ^ 24 := sizeLine_eq
  have hdep : ∀ x, (sufK z x).depth = 0 := fun x => rfl
  show wpAny _ _ (call (.builtin "sorted") [.ref r] [(Str.ofString "key", .ref f)]) _ _ s2
  refine sorted_rng_key (n := z.length) (k := sufK z) (I2.ok.hd hc) gr2 (by omega) ?_ ?_ (fun x => by rw [hdep]; have := hr.units; omega) ?_ ?_
  · intro d hd d' hd'
    obtain ⟨x, _, rfl⟩ := List.mem_map.mp hd
    obtain ⟨y, _, rfl⟩ := List.mem_map.mp hd'
    rfl
  · refine .inr fun d hd => ?_
    obtain ⟨x, _, rfl⟩ := List.mem_map.mp hd
    exact ⟨fun z => (by cases z), fun xs z => (by cases z)⟩
  · intro x tx2 g tk kp
    have J : Inv X pins σ H2 { s2 with heap := g, toks := tk } := I2.kept kp
    obtain ⟨pm, ctv, gfo⟩ := (show ObjOk X.prog X.w H2 g f _ from J.hok f _ gf).1
    have cp : Caps X (cloFrom X.env.cells sc.names []) [tx] [j] := Caps.made J.ok hfree (fun y hy => by rw [List.mem_singleton.mp hy]; exact PySem.mem_of_lookup KS.cap) (by rw [List.map_cons, List.map_cons, hN]; rfl)
    have ca := cells_of J cp
    obtain ⟨c, hcl, hcv⟩ := ca.has 0 tx rfl
    obtain ⟨u0, ru, cell⟩ := hcv (.str z) (by rw [List.map_cons, slotAt_of hσ]; rfl)
    obtain ⟨tz, rfl⟩ := ru
    exact key_call (s := { s2 with heap := g, toks := tk }) KS hr.depth gfo (codeO_at J.hok gc) (fun u => hbind _ _ _ _ _ u) hcl cell (by omega) J.nolimit d1 d2 d3
  · intro g0 tk0 out c h' tk e1 e2 go rv
    have J0 : Inv X pins σ H2 { s2 with heap := g0, toks := tk0 } := I2.kept e1
    have nP := J0.hok.fresh (Nat.le_refl _)
    rw [ord_sorted] at rv
    have hlen : ((ordM z).map V.int).length ≤ sizeLine := by
      have := (isort_perm (dle (sufK z)) ((List.range z.length).map fun i => (0 : Int) + (i : Nat) * 1)).length_eq
      rw [List.length_map, List.length_range] at this
      rw [List.length_map]
      unfold ordM
      omega
    refine ⟨.ref g0.objs.size, upd H2 g0.objs.size (.lst ((ordM z).map V.int)), J0.laid (t' := tk) e2 (Nat.le_refl _) ⟨hlen, out, c, rv, go⟩, rfl, ?_⟩
    refine q _ _ (fun b o e n => ?_) (fun b e => mn b (upd_none e)) (T2.ext fun b o e => (upd_ne (ne_of_none e nP)).trans e) upd_same (mn _ nP)
    exact (upd_ne (ne_of_none (ex2 b o e n) nP)).trans (ex2 b o e n)
end
end L2

set_option Elab.async false
set_option linter.all false
set_option maxRecDepth 100000
set_option maxHeartbeats 4000000
/-! SortTup: sorted(t) of a tuple of ints. -/
namespace L2
open PySem PySem.Spec PyProof.Rows
section
variable {prog : Program} {w : World} {A : Around} {E : Value → Shared → Prop} {s : Shared}
theorem collect_tupT {t : Addr} {us : List Value} {R : List Value → Shared → Prop} (tu : IsTup s.heap t us.toArray) (sz : us.length ≤ sizeLine)
    (kk : R us { s with heap := (s.heap.push (seqObj "list" #[] 0)).update s.heap.objs.size (Obj.mapSeq (· ++ us.toArray)) }) : wpAny (model prog w) A (collect (.ref t)) R E s := by
  obtain ⟨ob, gb, cb, nb, db⟩ := id tu
  unfold collect
  refine wpAny_bind (wpAny_runValue (codeAny_builtin PyProof.Rows.entry_proto_collect' ?_)); show wpAny _ _ (do again (.builtin "list.__iadd__" ⟨[← newList [], .ref t], []⟩)) _ _ s
  refine wpAny_bind (wpAny_newList (wpAny_pure ⟨Code.quiet_builtin _ (by decide +kernel), codeAny_builtin PyProof.Rows.entry_list_iadd' ?_⟩)); show wpAny _ _ (Builtin.List.listExtendWith (.ref s.heap.objs.size) (.ref t) (.ref s.heap.objs.size)) _ _ { s with heap := s.heap.push (seqObj "list" #[] 0) }
  unfold Builtin.List.listExtendWith
  have gb' : (s.heap.push (seqObj "list" #[] 0)).get? t = some ob := Heap.get?_push_of_some _ gb
  refine wpAny_bind (wpAny_typeOf (T := "tuple") ⟨ob, gb', cb⟩ ?_)
  have tt : (Value.type "tuple" == Value.type "tuple") = true := by rfl
  rw [if_pos (by rw [tt]; simp)]
  refine wpAny_bind (PyProof.Rows.listItems_at gb' db ?_); refine wpAny_bind (PyProof.Rows.listItems_at (xs := #[]) (n := 0) (Heap.get?_push_size _ rfl) rfl ?_)
  rw [if_neg (by simp)]
  refine wpAny_bind (PyProof.Rows.listUpdate_at (xs := #[]) (n := 0) (Heap.get?_push_size _ rfl) rfl ?_ (Nat.zero_le _) (by show (#[] ++ us.toArray).size ≤ sizeLine + 1; simp only [Array.size_append, List.size_toArray, List.length_nil]; omega)); refine wpAny_pure ?_
  show wpAny (model prog w) A (do
      let ob ← load s.heap.objs.size
      match ob.data with | .seq xs _ => pure xs.toList | _ => unsupported "internal:collect") R E { s with heap := (s.heap.push (seqObj "list" #[] 0)).update s.heap.objs.size (Obj.mapSeq (· ++ us.toArray)) }
  refine wpAny_bind (wpAny_load (PyProof.Rows.get?_update_seq (Heap.get?_push_size _ rfl) _) ?_); show wpAny _ _ (pure ((#[] : Array Value) ++ us.toArray).toList) R E _
  rw [show ((#[] : Array Value) ++ us.toArray).toList = us by simp]
  exact wpAny_pure kk
/-- sorted(t), t a tuple -/
theorem sorted_ordT {t : Addr} {us : List Value} {ltv : Value → Value → Bool} {R : Value → Shared → Prop} (O : SrtO.Swo ltv) (tu : IsTup s.heap t us.toArray) (sz : us.length ≤ sizeLine)
    (srt : 2 ≤ us.length → ∀ (h₁ : Heap) (a : Addr), h₁.get? a = some (seqObj "list" us.toArray 0) → (∀ b o, s.heap.get? b = some o → b ≠ a ∧ h₁.get? b = some o) → SrtO.SortableO prog w A.in1.in1 { s with heap := h₁ } a us ltv)
    (kk : ∀ out : List Value, SrtO.Srtd ltv out → SrtO.Stb ltv out us → R (.ref (s.heap.objs.size + 1)) { s with heap := sortedAll s.heap us out.toArray }) : wpAny (model prog w) A (call (.builtin "sorted") [.ref t]) R E s := by
  refine Calls.call_function_entry PyProof.Rows.kind_sorted PyProof.Rows.plain_sorted PyProof.Rows.entry_sorted (PyProof.Rows.args_sorted1 _) ?_
  unfold Builtin.«sorted»
  refine wpAny_bind (m := checkCount "sorted" 1 1 _) (wpAny_pure ?_); refine wpAny_bind (collect_tupT tu sz ?_); refine wpAny_bind (wpAny_newList ?_ sz)
  have e1 : ((s.heap.push (seqObj "list" #[] 0)).update s.heap.objs.size (Obj.mapSeq (· ++ us.toArray))).objs.size = s.heap.objs.size + 1 := by rw [Heap.size_update, size_push']
  have e2 : (((s.heap.push (seqObj "list" #[] 0)).update s.heap.objs.size (Obj.mapSeq (· ++ us.toArray))).push (seqObj "list" us.toArray 0)).get? (s.heap.objs.size + 1) = some (seqObj "list" us.toArray 0) := by rw [← e1]; exact Heap.get?_push_size _ rfl
  have kp : ∀ b o, s.heap.get? b = some o → b ≠ s.heap.objs.size + 1 ∧ (((s.heap.push (seqObj "list" #[] 0)).update s.heap.objs.size (Obj.mapSeq (· ++ us.toArray))).push (seqObj "list" us.toArray 0)).get? b = some o := fun b o q => by
    have lt : b < s.heap.objs.size := Heap.lt_size q
    refine ⟨Nat.ne_of_lt (Nat.lt_succ_of_lt lt), Heap.get?_push_of_some _ ?_⟩
    rw [Heap.get?_update_ne _ _ _ _ (Nat.ne_of_lt lt)]; exact Heap.get?_push_of_some _ q
  show wpAny _ _ _ _ _ { s with heap := ((s.heap.push (seqObj "list" #[] 0)).update s.heap.objs.size (Obj.mapSeq (· ++ us.toArray))).push (seqObj "list" us.toArray 0) }
  rw [e1]
  refine wpAny_bind (wpAny_holding (wpAny_call_entry PyProof.Rows.slot_list_sort ⟨_, e2, rfl⟩ PyProof.Rows.entry_list_sort (SrtO.list_sort_ord O e2 sz (fun h2 => srt h2 _ _ e2 kp) fun out hs hb => ⟨_, rfl, ?_⟩) (PyProof.Rows.args_list_sort _)))
  exact wpAny_pure ⟨_, rfl, kk out hs hb⟩
end
section
variable {X : Cx}
def rSortedTI (K : PySem.W.Frag) : List V → Hp → VK → Prop := fun vs H Q => ∃ (a : Addr) (ns : List Int), vs = [V.ref a] ∧ SqT K H a (ns.map V.int) ∧ ∀ (ms : List Int) (p : Addr), ms.Perm ns → ms.Pairwise (· ≤ ·) → H p = none → Q (.ref p) (upd H p (.lst (ms.map V.int)))
theorem cr_sortedTI : CallR X (.builtin "sorted") (rSortedTI X.K) := by
  intro pins s σ H vs us Q I r h
  obtain ⟨a, ns, rfl, ht, q⟩ := h
  obtain ⟨its, rv, tu, hz⟩ := I.tuple ht
  rw [Vals.ref1 r]
  have hi := rv.ints
  refine sorted_ordT SrtO.swo_int tu (by rw [← rv.length]; exact hz) (fun h2 h₁ a' _ _ => SrtO.ints_sortable hi h2) fun out g1 g2 => ?_
  obtain ⟨k1, k2, k3⟩ := SrtO.ints_out hi g1 g2
  obtain ⟨ep, gp⟩ := PyProof.Rows.sortedAll_at s.heap its out.toArray
  have hl : ((out.map SrtO.iv).map V.int).length ≤ sizeLine := by rw [List.length_map, k2.length_eq]; rw [List.length_map] at hz; exact hz
  refine ⟨.ref _, upd H (s.heap.objs.size + 1) (.lst ((out.map SrtO.iv).map V.int)), I.laid (t' := s.toks) (fun _ _ => PyProof.Rows.sortedAll_old) (Nat.le_succ _) ⟨hl, out, ep, vals_of_ints k1, gp⟩, rfl, ?_⟩
  exact q _ _ k2 k3 (I.hok.fresh (Nat.le_succ _))
end
end L2

set_option Elab.async false
set_option linter.all false
set_option maxRecDepth 100000
set_option maxHeartbeats 4000000
/-! EnumS: enumerate of a text, in a for or a comprehension. -/
namespace L2
open PySem PySem.Spec PyProof.Rows
def Ites (z : Str) : It :=
  ⟨fun i _ => i < z.cps.size, fun i H v H' => ∃ T c, v = .ref T ∧ H T = none ∧ H' = upd H T (.tup [.int (i : Nat), .str ⟨#[c]⟩]) ∧ z.cps[i]? = some c, fun i _ => z.cps.size ≤ i⟩
theorem draws_text {P : Program} {w : World} {A : Around} (hh : A.handled = none) (it : Addr) (x : Str) (t : Tok) :
    Draws P w A it [it] x.cps.size (fun i v => ∃ c u, x.cps[i]? = some c ∧ v = .str ⟨#[c]⟩ u) (fun i h => h.IsStrIter it (strIterType x) x t i) := by
  unfold strIterType
  by_cases h : x.cps.all (· < 128) = true
  · rw [if_pos h]
    exact Draws.strAscii hh it x t
  · rw [if_neg h]
    exact Draws.strWide hh it x t
theorem turn_enumS {P : Program} {w : World} {K : PySem.W.Frag} {elts : List Expr} {kk : Nat} {tpos : Pos} (z : Str) (t : Tok) (e it : Addr) :
    Turn P w K (.Tuple elts kk tpos) (Ites z) [e, it] e (fun i h => (∃ old, IsEnum h e it ((i : Nat) : Int) old) ∧ i ≤ z.cps.size ∧ h.IsStrIter it (strIterType z) z t i ∧ e ≠ it) where
  mem := by simp
  obj := fun i h st b hb => by
    obtain ⟨⟨old, he⟩, _, ⟨o, ho, hc, hd⟩, _⟩ := st
    have e' : b = e ∨ b = it := by simpa using hb
    rcases e' with q | q
    · rw [q]
      exact ⟨_, he, fun v y => nomatch y⟩
    · rw [q]
      refine ⟨o, ho, fun v y => ?_⟩
      rw [hd] at y
      cases y
  keep := fun i h h' st k => by
    obtain ⟨⟨old, he⟩, hi, ⟨o, ho, r⟩, hne⟩ := st
    exact ⟨⟨old, k e (by simp) _ he⟩, hi, ⟨o, k it (by simp) _ ho, r⟩, hne⟩
  item := by
    intro X hP hw hK hc i pins s σ H E I hf st hg
    subst hP hw hK
    obtain ⟨⟨old, he⟩, _, hit, hne⟩ := st
    have hg : i < z.cps.size := hg
    have hel : e < s.heap.objs.size := Heap.lt_size he
    have hil : it < s.heap.objs.size := by
      obtain ⟨_, q, _⟩ := hit
      exact Heap.lt_size q
    have hh : X.A.in1.handled = none := by simp [I.ok.hd hc]
    refine wpAny_pyNext_enum_itemD (draws_text hh it z t) he hit hg hne (by simpa using hne) fun x h' tk hx ho hit' hT hsz hk => ?_
    obtain ⟨c, u, hz, rfl⟩ := hx
    refine ⟨_, rfl, wpAny_letOwnedTupleGo_enum (s := { s with heap := h', toks := tk + 1 }) ho fun h'' he' sb => ?_⟩
    have hT2 : h''.get? s.heap.objs.size = some { cls := .type "tuple", data := .seq #[.int i tk, .str ⟨#[c]⟩ u] } := (sb.2 _ (Nat.ne_of_gt hel)).trans hT
    have new : ObjOk X.prog X.w (upd H s.heap.objs.size (.tup [.int (i : Nat), .str ⟨#[c]⟩])) h'' s.heap.objs.size (.tup [.int (i : Nat), .str ⟨#[c]⟩]) :=
      ⟨by show 2 ≤ sizeLine; decide, [.int i tk, .str ⟨#[c]⟩ u], .cons ⟨_, rfl⟩ (.cons ⟨_, rfl⟩ .nil), ⟨_, hT2, rfl, _, rfl⟩⟩
    have J : Inv X pins σ (upd H s.heap.objs.size (.tup [.int (i : Nat), .str ⟨#[c]⟩])) { s with heap := h'', toks := tk + 1 } :=
      I.turnedNew (ch := [e, it]) (fun b ob hb q => (sb.2 b (fun y => hb (by simp [y]))).trans (hk b ob (fun y => hb (by simp [y])) (fun y => hb (by simp [y])) q)) hf (Nat.le_refl _) new
    refine ⟨.ref s.heap.objs.size, _, J, rfl, ⟨_, c, rfl, I.hok.fresh (Nat.le_refl _), rfl, hz⟩, ⟨⟨.str ⟨#[c]⟩ u, ?_⟩, hg, ?_, hne⟩, fun b hb => ?_⟩
    · have e1 : ((i + 1 : Nat) : Int) = (i : Int) + 1 := by omega
      rw [e1]
      exact he'
    · obtain ⟨o, q, r⟩ := hit'
      exact ⟨o, (sb.2 it (Ne.symm hne)).trans q, r⟩
    · have hb' : b < s.heap.objs.size := by
        have e' : b = e ∨ b = it := by simpa using hb
        rcases e' with y | y
        · rw [y]
          exact hel
        · rw [y]
          exact hil
      rw [upd_ne (Nat.ne_of_lt hb')]
      exact (hf b hb).1
  done := by
    intro X hP hw hK hc i pins s σ H E I hf st hg
    subst hP hw hK
    obtain ⟨⟨old, he⟩, hi, hit, hne⟩ := st
    have hg : z.cps.size ≤ i := hg
    have hii : i = z.cps.size := by omega
    subst hii
    obtain ⟨f0, f1, f2, f3, f4, f5⟩ := hf it (by simp)
    have hh : X.A.in1.handled = none := by simp [I.ok.hd hc]
    exact wpAny_pyNext_enum_endD (draws_text hh it z t) he hit fun h' eb => ⟨rfl, I.turned (t' := s.toks) (fun b o hb q => eb b o hb q) f0 f1 f3 f4 f5⟩
  self := fun A i s Q E st h => let ⟨⟨_, he⟩, _⟩ := st; wpAny_pyIter_enum he h
def iEnumS (ta : TA) : TI := fun σ H R => ta σ H fun vs H1 => ∃ z, vs = [.str z] ∧ R (Ites z) H1
theorem pi_enumS {X : Cx} {e : Expr} {ta : TA} {p pos tpos : Pos} {elts : List Expr} {kk : Nat} (hg : Gl X "enumerate") (hm : X.mg "enumerate" = none) (ha : PA X [e] ta) (hs : starEach [e] X.env = [(false, eval e X.env)] := by rfl) :
    PI X (.Tuple elts kk tpos) (.Call (.Name "enumerate" p) [e] [] pos) (iEnumS ta) := by
  refine ⟨fun pins s σ H R I h => ?_⟩
  refine Call_ (ld_blt I hg hm boot_enumerate (PyProof.Rows.callWith_type1 (thn (ha.run pos pins s σ H _ I h) fun us s1 ⟨vs, H1, I1, r1, q1⟩ => ?_) hs rfl))
  obtain ⟨z, ex, q⟩ := q1
  subst ex
  cases r1 with
  | cons r rr =>
    cases rr
    obtain ⟨t, rfl⟩ := r
    refine call_enumerate_str fun h' he hit hsz hk => wpAny_pyIter_enum he ?_
    have I2 : Inv X pins σ H1 { s1 with heap := h' } := I1.kept (t' := s1.toks) hk
    refine ⟨s1.heap.objs.size + 1, [s1.heap.objs.size + 1, s1.heap.objs.size], _, _, H1, rfl, I2, turn_enumS z t (s1.heap.objs.size + 1) s1.heap.objs.size, ⟨⟨.none, he⟩, Nat.zero_le _, hit, Nat.succ_ne_self _⟩, fun b hb => ?_, q⟩
    have e' : b = s1.heap.objs.size + 1 ∨ b = s1.heap.objs.size := by simpa using hb
    have hle : s1.heap.objs.size ≤ b := by
      rcases e' with q | q
      · rw [q]
        exact Nat.le_add_right _ _
      · rw [q]
        exact Nat.le_refl _
    exact I1.fpOk hle (I1.hok.fresh hle)
theorem walk_enumS {z : Str} : Walk (Ites z) z.cps.size (fun _ => True) (fun i H v H' => ∃ T c, v = .ref T ∧ H T = none ∧ H' = upd H T (.tup [.int (i : Nat), .str ⟨#[c]⟩]) ∧ z.cps[i]? = some c) :=
  ⟨fun _ _ hi _ => hi, fun _ _ => Nat.le_refl _, fun _ _ _ _ _ _ y => y⟩
end L2

set_option Elab.async false
set_option linter.all false
set_option maxRecDepth 100000
set_option maxHeartbeats 4000000
/-! EnumT: enumerate of a tuple, in a for or a comprehension. -/
namespace L2
open PySem PySem.Spec PyProof.Rows
abbrev itTup (t : Addr) : Obj := { cls := .type "tuple_iterator", data := .fields #[.ref t, .int 0 0] }
abbrev obEnum (i : Addr) : Obj := { cls := .type "enumerate", data := .fields #[.none, .bool false, .ref i, rawInt 0, .none, .none] }
theorem meets_enum_tup (t : Addr) (its : Array Value) (n : Nat) (dd : Option Addr) (ss : Array (Option Value)) :
    Meets (Builtin.«enumerate.__new__» ⟨[.type "enumerate", .ref t], []⟩) (fun _ R s => s.heap.get? t = some { cls := .type "tuple", dict := dd, data := .seq its n, slots := ss } ∧
      R (.ok (.ret (.ref (s.heap.push (itTup t)).objs.size))) { s with heap := (s.heap.push (itTup t)).push (obEnum s.heap.objs.size) }) :=
  .of_wp fun prog w A R s h => by
    obtain ⟨hp, g, d, tk, os⟩ := s
    obtain ⟨ht, h⟩ := h
    have sb := sub_enumerate
    have tT : Heap.IsTuple (Shared.heap ⟨hp, g, d, tk, os⟩) t its := ⟨_, ht, rfl, n, rfl⟩
    wp_walk using AutoSeq1.wpAny_loadPart' ht
    refine wpAny_stack_any fun st => wpAny_pure ?_
    split
    · rename_i c _ _ _ _ _
      cases (c == Value.type "enumerate")
      · wp_walk using AutoSeq1.wpAny_loadPart' ht, wpAny_pyIter_tuple tT
        exact ⟨_, rfl, h⟩
      · wp_walk using AutoSeq1.wpAny_loadPart' ht, wpAny_pyIter_tuple tT
        exact ⟨_, rfl, h⟩
    · wp_walk using AutoSeq1.wpAny_loadPart' ht, wpAny_pyIter_tuple tT
      exact ⟨_, rfl, h⟩
section
variable {prog : Program} {w : World} {A : Around} {E : Value → Shared → Prop} {s : Shared}
theorem call_enum_tup {t : Addr} {its : Array Value} {Q : Value → Shared → Prop} (hT : s.heap.IsTuple t its)
    (h : ∀ h', IsEnum h' (s.heap.objs.size + 1) s.heap.objs.size 0 .none → h'.IsTupleIter s.heap.objs.size t 0 → h'.objs.size = s.heap.objs.size + 2 → (∀ b o, s.heap.get? b = some o → h'.get? b = some o) → Q (.ref (s.heap.objs.size + 1)) { s with heap := h' }) :
    wpAny (model prog w) A (call (.type "enumerate") [.ref t]) Q E s := by
  obtain ⟨⟨c, dd, dt, ss⟩, ht, hc, n, hd⟩ := hT
  replace hc : c = .type "tuple" := hc
  replace hd : dt = .seq its n := hd
  subst hc hd
  refine callType_new F.called_enumerate (by decide) (F.typeCall_enumerate_1 _) (F.newCall_enumerate_1 _) (fun obj => F.args_object_init_2 obj _) F.entry_enumerate_new (meets_enum_tup t its n dd ss) ⟨ht, ?_⟩
  have hz : (s.heap.push (itTup t)).objs.size = s.heap.objs.size + 1 := Heap.size_push ..
  show _ ∧ _
  rw [hz]
  have he : IsEnum ((s.heap.push (itTup t)).push (obEnum s.heap.objs.size)) (s.heap.objs.size + 1) s.heap.objs.size 0 .none := by
    have q := Heap.get?_push_size (s.heap.push (itTup t)) (o := obEnum s.heap.objs.size) rfl
    rw [hz] at q
    exact q
  exact ⟨⟨_, he, rfl⟩, h _ he ⟨_, Heap.get?_push_of_some _ (Heap.get?_push_size _ rfl), rfl, rfl⟩ (by rw [Heap.size_push, hz]) fun b o x => Heap.get?_push_of_some _ (Heap.get?_push_of_some _ x)⟩
end
/-- the tuple at a as it stands at each turn, each item in a new pair -/
def ItT (K : PySem.W.Frag) (a : Addr) : It :=
  ⟨fun i H => ∃ (xs : List V) (x : V), SqT K H a xs ∧ xs[i]? = some x, fun i H v H' => ∃ T x, v = .ref T ∧ H T = none ∧ H' = upd H T (.tup [.int (i : Nat), x]) ∧ ∀ xs, SqT K H a xs → xs[i]? = some x, fun i H => ∃ xs : List V, SqT K H a xs ∧ xs.length ≤ i⟩
theorem turn_enumT {P : Program} {w : World} {K : PySem.W.Frag} {elts : List Expr} {kk : Nat} {tpos : Pos} (a e it : Addr) :
    Turn P w K (.Tuple elts kk tpos) (ItT K a) [e, it] e (fun i h => (∃ old, IsEnum h e it ((i : Nat) : Int) old) ∧ h.IsTupleIter it a i ∧ e ≠ it) where
  mem := by simp
  obj := fun i h st b hb => by
    obtain ⟨⟨old, he⟩, ⟨o, ho, hc, hd⟩, _⟩ := st
    have e' : b = e ∨ b = it := by simpa using hb
    rcases e' with q | q
    · rw [q]
      exact ⟨_, he, fun v y => nomatch y⟩
    · rw [q]
      refine ⟨o, ho, fun v y => ?_⟩
      rw [hd] at y
      cases y
  keep := fun i h h' st k => by
    obtain ⟨⟨old, he⟩, ⟨o, ho, r⟩, hne⟩ := st
    exact ⟨⟨old, k e (by simp) _ he⟩, ⟨o, k it (by simp) _ ho, r⟩, hne⟩
  item := by
    intro X hP hw hK hc i pins s σ H E I hf st hg
    subst hP hw hK
    obtain ⟨⟨old, he⟩, hit, hne⟩ := st
    obtain ⟨xs, x, hq, hx⟩ := hg
    obtain ⟨its, rv, tp, hz⟩ := I.tuple hq
    obtain ⟨u, hu, ru⟩ := rv.get hx
    have hel : e < s.heap.objs.size := Heap.lt_size he
    have hil : it < s.heap.objs.size := by
      obtain ⟨_, q, _⟩ := hit
      exact Heap.lt_size q
    have hh : X.A.in1.handled = none := by simp [I.ok.hd hc]
    have nai : a ≠ it := fun y => by
      obtain ⟨o1, q1, c1, _⟩ := hit
      obtain ⟨o2, q2, c2, _⟩ := tp
      rw [y, q1] at q2
      rw [← Option.some.inj q2, c1] at c2
      exact absurd c2 (by decide)
    have nae : e ≠ a := fun y => by
      obtain ⟨o2, q2, c2, _⟩ := tp
      rw [← y, show s.heap.get? e = _ from he] at q2
      rw [← Option.some.inj q2] at c2
      have c3 : Value.type "enumerate" = Value.type "tuple" := c2
      exact absurd c3 (by decide)
    have ixl : i < its.toArray.size := by
      rw [List.size_toArray]
      exact (List.getElem?_eq_some_iff.mp hu).1
    refine wpAny_pyNext_enum_itemD (Draws.tuple hh it a nai its.toArray) he ⟨hit, tp⟩ ixl hne (by simp [hne, nae]) fun y h' tk hy ho hit' hT hsz hk => ?_
    have hy : its.toArray[i]? = some y := hy
    obtain rfl : u = y := by
      rw [List.getElem?_toArray, hu] at hy
      exact Option.some.inj hy
    refine ⟨_, rfl, wpAny_letOwnedTupleGo_enum (s := { s with heap := h', toks := tk + 1 }) ho fun h'' he' sb => ?_⟩
    have hT2 : h''.get? s.heap.objs.size = some { cls := .type "tuple", data := .seq #[.int i tk, u] } := (sb.2 _ (Nat.ne_of_gt hel)).trans hT
    have new : ObjOk X.prog X.w (upd H s.heap.objs.size (.tup [.int (i : Nat), x])) h'' s.heap.objs.size (.tup [.int (i : Nat), x]) :=
      ⟨by show 2 ≤ sizeLine; decide, [.int i tk, u], .cons ⟨_, rfl⟩ (.cons ru .nil), ⟨_, hT2, rfl, _, rfl⟩⟩
    have J : Inv X pins σ (upd H s.heap.objs.size (.tup [.int (i : Nat), x])) { s with heap := h'', toks := tk + 1 } :=
      I.turnedNew (ch := [e, it]) (fun b ob hb q => (sb.2 b (fun y => hb (by simp [y]))).trans (hk b ob (fun y => hb (by simp [y])) (fun y => hb (by simp [y])) q)) hf (Nat.le_refl _) new
    refine ⟨.ref s.heap.objs.size, _, J, rfl, ⟨_, x, rfl, I.hok.fresh (Nat.le_refl _), rfl, fun ys hy => by rw [I.tuple_inj hy hq]; exact hx⟩, ⟨⟨u, ?_⟩, ?_, hne⟩, fun b hb => ?_⟩
    · have e1 : ((i + 1 : Nat) : Int) = (i : Int) + 1 := by omega
      rw [e1]
      exact he'
    · obtain ⟨o, q, r⟩ := hit'.1
      exact ⟨o, (sb.2 it (Ne.symm hne)).trans q, r⟩
    · have hb' : b < s.heap.objs.size := by
        have e' : b = e ∨ b = it := by simpa using hb
        rcases e' with y | y
        · rw [y]
          exact hel
        · rw [y]
          exact hil
      rw [upd_ne (Nat.ne_of_lt hb')]
      exact (hf b hb).1
  done := by
    intro X hP hw hK hc i pins s σ H E I hf st hg
    subst hP hw hK
    obtain ⟨⟨old, he⟩, hit, hne⟩ := st
    obtain ⟨xs, hq, hx⟩ := hg
    obtain ⟨its, rv, tp, hz⟩ := I.tuple hq
    obtain ⟨f0, f1, f2, f3, f4, f5⟩ := hf it (by simp)
    have hl := rv.length
    have hh : X.A.in1.handled = none := by simp [I.ok.hd hc]
    have D : Draws X.prog X.w X.A.in1 it [it, a] i (fun _ _ => False) (fun j h => j = i ∧ h.IsTupleIter it a i ∧ h.IsTuple a its.toArray) :=
      { live := fun j h st => let ⟨o, ho, _⟩ := st.2.1; ⟨o, ho⟩
        frame := fun j h h' st hk => ⟨st.1, st.2.1.at fun o e => hk it (by simp) o e, st.2.2.at fun o e => hk a (by simp) o e⟩
        item := fun j s Q E hj st hQ => absurd st.1 (Nat.ne_of_lt hj)
        done := fun s Q E st hE => wpAny_nextOf_tuple_end hh st.2.1 st.2.2 (by simp; omega) hE }
    exact wpAny_pyNext_enum_endD D he ⟨rfl, hit, tp⟩ fun h' eb => ⟨rfl, I.turned (t' := s.toks) (fun b o hb q => eb b o hb q) f0 f1 f3 f4 f5⟩
  self := fun A i s Q E st h => let ⟨⟨_, he⟩, _⟩ := st; wpAny_pyIter_enum he h
def iEnumT (K : PySem.W.Frag) (ta : TA) : TI := fun σ H R => ta σ H fun vs H1 => ∃ a xs, vs = [.ref a] ∧ SqT K H1 a xs ∧ R (ItT K a) H1
theorem pi_enumT {X : Cx} {e : Expr} {ta : TA} {p pos tpos : Pos} {elts : List Expr} {kk : Nat} (hg : Gl X "enumerate") (hm : X.mg "enumerate" = none) (ha : PA X [e] ta) (hs : starEach [e] X.env = [(false, eval e X.env)] := by rfl) :
    PI X (.Tuple elts kk tpos) (.Call (.Name "enumerate" p) [e] [] pos) (iEnumT X.K ta) := by
  refine ⟨fun pins s σ H R I h => ?_⟩
  refine Call_ (ld_blt I hg hm boot_enumerate (PyProof.Rows.callWith_type1 (thn (ha.run pos pins s σ H _ I h) fun us s1 ⟨vs, H1, I1, r1, q1⟩ => ?_) hs rfl))
  obtain ⟨a, xs, ex, hq, q⟩ := q1
  subst ex
  cases r1 with
  | cons r rr =>
    cases rr
    cases r
    obtain ⟨its, rv, tp, hz⟩ := I1.tuple hq
    refine call_enum_tup tp fun h' he hit hsz hk => wpAny_pyIter_enum he ?_
    have I2 : Inv X pins σ H1 { s1 with heap := h' } := I1.kept (t' := s1.toks) hk
    refine ⟨s1.heap.objs.size + 1, [s1.heap.objs.size + 1, s1.heap.objs.size], _, _, H1, rfl, I2, turn_enumT a (s1.heap.objs.size + 1) s1.heap.objs.size, ⟨⟨.none, he⟩, hit, Nat.succ_ne_self _⟩, fun b hb => ?_, q⟩
    have e' : b = s1.heap.objs.size + 1 ∨ b = s1.heap.objs.size := by simpa using hb
    have hle : s1.heap.objs.size ≤ b := by
      rcases e' with q | q
      · rw [q]
        exact Nat.le_add_right _ _
      · rw [q]
        exact Nat.le_refl _
    exact I1.fpOk hle (I1.hok.fresh hle)
theorem walk_enumT {K : PySem.W.Frag} {a : Addr} {xs : List V} : Walk (ItT K a) xs.length (fun H => SqT K H a xs) (YPair (fun i => some (.int (i : Nat))) (fun i => xs[i]?)) := by
  refine ⟨fun i _ hi q => ⟨xs, xs[i], q, by simp [hi]⟩, fun _ q => ⟨xs, q, Nat.le_refl _⟩, fun i H v H' _ q y => ?_⟩
  obtain ⟨T, x, h1, h2, h3, h4⟩ := y
  exact ⟨T, .int (i : Nat), x, h1, h2, h3, rfl, h4 xs q⟩
end L2

set_option Elab.async false
set_option linter.all false
set_option maxRecDepth 100000
set_option maxHeartbeats 4000000
namespace T21
open PySem L2 EK
/-- a thing whose kind is known -/
inductive Pl (H : Hp) : V → Prop
  | non : Pl H .non
  | int (i : Int) : Pl H (.int i)
  | str (z : Str) : Pl H (.str z)
  | bl (b : Bool) : Pl H (.bl b)
  | tup {a : Addr} {xs : List V} (e : H a = some (.tup xs)) : Pl H (.ref a)
  | lst {a : Addr} {xs : List V} (e : H a = some (.lst xs)) : Pl H (.ref a)
  | dct {a : Addr} {kvs : List (Key × V)} (e : H a = some (.dK kvs)) : Pl H (.ref a)
theorem Pl.keep {H H' : Hp} {x : V} (h : Pl H x) (s : Same H H') : Pl H' x := by
  cases h with
  | non => exact .non
  | int i => exact .int i
  | str z => exact .str z
  | bl b => exact .bl b
  | tup e => exact .tup (s _ _ e)
  | lst e => exact .lst (s _ _ e)
  | dct e => exact .dct (s _ _ e)
def isIntV : V → Bool
  | .int _ => true
  | .bl _ => true
  | _ => false
def isBlV : V → Bool
  | .bl _ => true
  | _ => false
def isTupV (H : Hp) (x : V) : Prop := ∃ a xs, x = .ref a ∧ H a = some (.tup xs)
theorem Pl.isInt {K : PySem.W.Frag} {H : Hp} {x : V} (h : Pl H x) : ∃ t, TyX K H x t ∧ PySem.W.kitOne K t (.type "int") = some (isIntV x) := by
  cases h with
  | non => exact ⟨_, .base .non, kit_ty (r := false) (by decide +kernel)⟩
  | int i => exact ⟨_, .base (.int i), kit_ty (r := true) (by decide +kernel)⟩
  | str z => exact ⟨_, .base (.str z), kit_ty (r := false) (by decide +kernel)⟩
  | bl b => exact ⟨_, .base (.bl b), kit_ty (r := true) (by decide +kernel)⟩
  | tup e => exact ⟨_, .base (.tup e), kit_ty (r := false) (by decide +kernel)⟩
  | lst e => exact ⟨_, .base (.lst e), kit_ty (r := false) (by decide +kernel)⟩
  | dct e => exact ⟨_, .base (.dK e), kit_ty (r := false) (by decide +kernel)⟩
theorem Pl.isBl {K : PySem.W.Frag} {H : Hp} {x : V} (h : Pl H x) : ∃ t, TyX K H x t ∧ PySem.W.kitOne K t (.type "bool") = some (isBlV x) := by
  cases h with
  | non => exact ⟨_, .base .non, kit_ty (r := false) (by decide +kernel)⟩
  | int i => exact ⟨_, .base (.int i), kit_ty (r := false) (by decide +kernel)⟩
  | str z => exact ⟨_, .base (.str z), kit_ty (r := false) (by decide +kernel)⟩
  | bl b => exact ⟨_, .base (.bl b), kit_ty (r := true) (by decide +kernel)⟩
  | tup e => exact ⟨_, .base (.tup e), kit_ty (r := false) (by decide +kernel)⟩
  | lst e => exact ⟨_, .base (.lst e), kit_ty (r := false) (by decide +kernel)⟩
  | dct e => exact ⟨_, .base (.dK e), kit_ty (r := false) (by decide +kernel)⟩
theorem Pl.isTup {K : PySem.W.Frag} {H : Hp} {x : V} (h : Pl H x) : (∃ a xs, x = .ref a ∧ H a = some (.tup xs) ∧ ∃ t, TyX K H x t ∧ PySem.W.kitOne K t (.type "tuple") = some true) ∨ ((∀ a xs, x = .ref a → H a ≠ some (.tup xs)) ∧ ∃ t, TyX K H x t ∧ PySem.W.kitOne K t (.type "tuple") = some false) := by
  cases h with
  | non => exact .inr ⟨fun a xs z => (by cases z), _, .base .non, kit_ty (r := false) (by decide +kernel)⟩
  | int i => exact .inr ⟨fun a xs z => (by cases z), _, .base (.int i), kit_ty (r := false) (by decide +kernel)⟩
  | str z => exact .inr ⟨fun a xs z => (by cases z), _, .base (.str z), kit_ty (r := false) (by decide +kernel)⟩
  | bl b => exact .inr ⟨fun a xs z => (by cases z), _, .base (.bl b), kit_ty (r := false) (by decide +kernel)⟩
  | tup e => exact .inl ⟨_, _, rfl, e, _, .base (.tup e), kit_ty (r := true) (by decide +kernel)⟩
  | lst e => exact .inr ⟨fun a xs z q => (by cases z; rw [e] at q; cases q), _, .base (.lst e), kit_ty (r := false) (by decide +kernel)⟩
  | dct e => exact .inr ⟨fun a xs z q => (by cases z; rw [e] at q; cases q), _, .base (.dK e), kit_ty (r := false) (by decide +kernel)⟩
def numB (x : V) (m : Int) : Bool := match x with
  | .int i => decide (m ≤ i)
  | _ => false
def numBB (x : V) (lo hi : Int) : Bool := match x with
  | .int i => decide (lo ≤ i) && decide (i ≤ hi)
  | _ => false
theorem numBB_int {x : V} {lo hi : Int} (h : numBB x lo hi = true) : ∃ i, x = .int i ∧ lo ≤ i ∧ i ≤ hi := by
  cases x with
  | int i =>
    have h : (decide (lo ≤ i) && decide (i ≤ hi)) = true := h
    rw [Bool.and_eq_true] at h
    exact ⟨i, rfl, of_decide_eq_true h.1, of_decide_eq_true h.2⟩
  | _ => exact absurd h (by simp [numBB])
theorem numB_int {x : V} {m : Int} (h : numB x m = true) : ∃ i, x = .int i ∧ m ≤ i := by
  cases x with
  | int i => exact ⟨i, rfl, of_decide_eq_true h⟩
  | _ => exact absurd h (by simp [numB])
/-- 0 to len, rising -/
def incB : List Int → Bool
  | [] => true
  | [_] => true
  | a :: b :: r => decide (a < b) && incB (b :: r)
def valI : V → Int
  | .int i => i
  | _ => 0
def letS : Str := "abcdefghijklmnopqrstuvwxyz"
structure TxtC (K : PySem.W.Frag) (mg : Str → Option Value) : Prop where
  isinstance : mg "isinstance" = none
  str : mg "str" = none
  int : mg "int" = none
  bool : mg "bool" = none
  tuple : mg "tuple" = none
  all : mg "all" = none
  len : mg "len" = none
  list : mg "list" = none
  sorted : mg "sorted" = none
  range : mg "range" = none
  enumerate : mg "enumerate" = none
  zip : mg "zip" = none
  sum : mg "sum" = none
  letters : ∃ u, mg "LETTERS" = some u ∧ RelV (.str letS) u
  comb : mg "comb" = some (.builtin "math.comb")
def spNumber : Sp := fun vs H Q _ => ∃ x m, vs = [x, .int m] ∧ Pl H x ∧ Q (.bl (numB x m)) H
def spNB : Sp := fun vs H Q _ => ∃ x m n, vs = [x, .int m, .int n] ∧ Pl H x ∧ Q (.bl (numBB x m n)) H
section
variable {P : Program} {w : World} {K : PySem.W.Frag} {mg : Str → Option Value} {base : Heap}
theorem scNum : FnScope ["value", "least"] ["value", "least"] (defScope sIsNum) := ⟨rfl, rfl, rfl, by decide +kernel, rfl, by decide +kernel, by decide +kernel⟩
theorem scNB : FnScope ["value", "least", "greatest"] ["value", "least", "greatest"] (defScope sIsNB) := ⟨rfl, rfl, rfl, by decide +kernel, rfl, by decide +kernel, by decide +kernel⟩
theorem ok_isNumber {f : Addr} {fd : FuncData} (F : Fun K "is_number" "is_number" sIsNum f fd) (T : TxtC K mg) : FnOk P w K mg base CX0 1 f fd ["value", "least"] spNumber := by
  refine F.ok scNum (fun vs H Q E h => ?_) (fun cdv A outer s H vs Q E hr h => ?_)
  · obtain ⟨x, m, rfl, _⟩ := h
    rfl
  · obtain ⟨x, m, rfl, hp, k⟩ := h
    have nd := scNum.nd
    refine ⟨_, (pss_one (ps_ret (pe_and (pe_callB call_isi (by rfl) T.isinstance (by decide +kernel) (pa_cons (pv 0) (pa_cons (pe_bltn (v := .ty "int") rfl T.int (by decide +kernel) rfl) pa_nil))) (pe_and (pe_not (pe_callB call_isi (by rfl) T.isinstance (by decide +kernel) (pa_cons (pv 0) (pa_cons (pe_bltn (v := .ty "bool") rfl T.bool (by decide +kernel) rfl) pa_nil)))) (pe_one (pe_cmpR op_ge (pv 0) (pv 1) (nomark _))))))), ?_⟩
    obtain ⟨t, ht, hk⟩ := hp.isInt (K := K)
    obtain ⟨t2, ht2, hk2⟩ := hp.isBl (K := K)
    refine ⟨_, rfl, _, _, _, _, _, rfl, .ty _, ht, hk, _, rfl, ?_⟩
    cases x with
    | int i =>
      exact ⟨_, rfl, _, _, _, _, _, rfl, .ty _, ht2, hk2, _, rfl, _, rfl, _, rfl, _, rfl, _, _, rfl, rfl, k⟩
    | bl b => exact ⟨_, rfl, _, _, _, _, _, rfl, .ty _, ht2, hk2, _, rfl, _, rfl, k⟩
    | _ => exact k
theorem ok_isNB {f fN : Addr} {fd fdN : FuncData} (F : Fun K "is_number_between" "is_number_between" sIsNB f fd)
    (GN : FnOk P w K mg base CX0 1 fN fdN ["value", "least"] spNumber) (gN : mg "is_number" = some (.ref fN)) (kN : PySem.W.keepIn K (.ref fN) = true) (bN : Binds K fdN ["value", "least"] []) :
    FnOk P w K mg base CX0 2 f fd ["value", "least", "greatest"] spNB := by
  refine F.ok scNB (fun vs H Q E h => ?_) (fun cdv A outer s H vs Q E hr h => ?_)
  · obtain ⟨x, m, n, rfl, _⟩ := h
    rfl
  · obtain ⟨x, m, n, rfl, hp, k⟩ := h
    have hr1 : Room 1 _ := hr
    refine ⟨_, (pss_one (ps_ret (pe_and (pe_call GN hr1 rfl gN kN bN .nil pass0 (pa_cons (pv 0) (pa_cons (pv 1) pa_nil))) (pe_one (pe_cmpR op_le (pv 0) (pv 2) (nomark _)))))), ?_⟩
    refine ⟨_, rfl, _, rfl, x, m, rfl, hp, _, rfl, ?_⟩
    cases x with
    | int i =>
      by_cases h : m ≤ i
      · have e : numB (.int i) m = true := decide_eq_true h
        have e2 : numBB (.int i) m n = decide (i ≤ n) := by
          show (decide (m ≤ i) && decide (i ≤ n)) = _
          rw [decide_eq_true h, Bool.true_and]
        rw [e2] at k
        rw [e]
        exact ⟨_, rfl, _, rfl, _, _, rfl, rfl, k⟩
      · have e : numB (.int i) m = false := decide_eq_false h
        have e2 : numBB (.int i) m n = false := by
          show (decide (m ≤ i) && decide (i ≤ n)) = _
          rw [decide_eq_false h, Bool.false_and]
        rw [e2] at k
        rw [e]
        exact k
    | _ => exact k
theorem all_ints {xs : List V} {lo hi : Int} (h : xs.all (numBB · lo hi) = true) : xs = (xs.map valI).map V.int := by
  induction xs with
  | nil => rfl
  | cons x xs ih =>
    rw [List.all_cons, Bool.and_eq_true] at h
    obtain ⟨i, rfl, _, _⟩ := numBB_int h.1
    rw [List.map_cons, List.map_cons, ← ih h.2]
    rfl
theorem incB_iff : ∀ ns : List Int, incB ns = true ↔ ns.Pairwise (· < ·)
  | [] => by simp [incB]
  | [a] => by simp [incB]
  | a :: b :: r => by
    have ih := incB_iff (b :: r)
    rw [incB, Bool.and_eq_true, decide_eq_true_eq, ih]
    constructor
    · rintro ⟨h1, h2⟩
      refine List.pairwise_cons.mpr ⟨fun c hc => ?_, h2⟩
      rcases List.mem_cons.mp hc with rfl | hc
      · exact h1
      · exact Int.lt_trans h1 ((List.pairwise_cons.mp h2).1 c hc)
    · intro h
      obtain ⟨h1, h2⟩ := List.pairwise_cons.mp h
      exact ⟨h1 b List.mem_cons_self, h2⟩
theorem sorted_same {ns ms : List Int} (h1 : ns.Pairwise (· < ·)) (h2 : ms.Pairwise (· < ·)) (h : ∀ k, k ∈ ns ↔ k ∈ ms) : ns = ms := by
  have nd : ∀ {l : List Int}, l.Pairwise (· < ·) → l.Nodup := fun h => h.imp fun h e => by rw [e] at h; exact Int.lt_irrefl _ h
  have p : ns.Perm ms := (List.perm_ext_iff_of_nodup (nd h1) (nd h2)).mpr h
  refine sorted_uniq (fun a b => decide (a ≤ b)) (fun x _ y _ a b => Int.le_antisymm (of_decide_eq_true a) (of_decide_eq_true b)) p (h1.imp fun h => decide_eq_true (Int.le_of_lt h)) (h2.imp fun h => decide_eq_true (Int.le_of_lt h))
end
end T21

set_option Elab.async false
set_option linter.all false
set_option maxRecDepth 100000
set_option maxHeartbeats 4000000
namespace T21
open PySem L2 EK
def leI (a b : Int) : Bool := decide (a ≤ b)
def rangeI (n : Nat) : List Int := (List.range n).map fun i => (0 : Int) + (i : Nat)
def permB (ns : List Int) : Bool := decide (isort leI ns = rangeI ns.length)
def ordB (xs : List V) : Bool := xs.all (numB · 0) && permB (xs.map valI)
/-- a thing of which it is known whether it is an order -/
inductive IsO (H : Hp) : V → Bool → Prop
  | no {x : V} (p : Pl H x) (n : ∀ a xs, x = .ref a → H a ≠ some (.tup xs)) : IsO H x false
  | tup {a : Addr} {xs : List V} (e : H a = some (.tup xs)) (p : ∀ y ∈ xs, Pl H y) (l : xs.length ≤ 1000) : IsO H (.ref a) (ordB xs)
theorem leI_sorted {ms : List Int} (h : ms.Pairwise (· ≤ ·)) : ms.Pairwise (fun x y => leI x y = true) := h.imp fun h => decide_eq_true h
theorem sort_is {ns ms : List Int} (p : ms.Perm ns) (h : ms.Pairwise (· ≤ ·)) : ms = isort leI ns := by
  refine sorted_uniq leI (fun x _ y _ a b => Int.le_antisymm (of_decide_eq_true a) (of_decide_eq_true b)) (p.trans (isort_perm leI ns).symm) (leI_sorted h) ?_
  exact isort_sorted leI (fun x y z a b => decide_eq_true (Int.le_trans (of_decide_eq_true a) (of_decide_eq_true b))) (fun x y => by
    unfold leI
    rw [Bool.or_eq_true, decide_eq_true_eq, decide_eq_true_eq]
    omega) ns
theorem rgV_eq (n : Nat) : rgV 0 (n : Int) = (rangeI n).map V.int := by
  unfold rgV rangeI
  rw [List.map_map, show (((n : Int)) - 0).toNat = n by omega]
  rfl
theorem rangeI_len (n : Nat) : (rangeI n).length = n := by
  unfold rangeI
  rw [List.length_map, List.length_range]
/-- the numbers of an order are places -/
theorem perm_rng {ns : List Int} (h : permB ns = true) : ∀ n ∈ ns, 0 ≤ n ∧ n < ns.length := by
  intro n hn
  have h := of_decide_eq_true h
  have hm : n ∈ isort leI ns := (isort_perm leI ns).mem_iff.mpr hn
  rw [h] at hm
  obtain ⟨i, hi, rfl⟩ := List.mem_map.mp hm
  have := List.mem_range.mp hi
  omega
theorem IsO.good {H : Hp} {x : V} {b : Bool} (h : IsO H x b) (hb : b = true) : ∃ a ns, x = .ref a ∧ H a = some (.tup (ns.map V.int)) ∧ permB ns = true ∧ ns.length ≤ 1000 := by
  cases h with
  | no p n => cases hb
  | @tup a xs e p l =>
    unfold ordB at hb
    rw [Bool.and_eq_true] at hb
    have ei : xs = (xs.map valI).map V.int := by
      have : ∀ zs : List V, zs.all (numB · 0) = true → zs = (zs.map valI).map V.int := fun zs => by
        induction zs with
        | nil => intro _; rfl
        | cons z zs ih =>
          intro hz
          rw [List.all_cons, Bool.and_eq_true] at hz
          obtain ⟨i, rfl, _⟩ := numB_int hz.1
          rw [List.map_cons, List.map_cons, ← ih hz.2]
          rfl
      exact this xs hb.1
    exact ⟨a, xs.map valI, rfl, by rw [← ei]; exact e, hb.2, by rw [List.length_map]; exact l⟩
theorem ordB_ints {ns : List Int} (h : permB ns = true) : ordB (ns.map V.int) = true := by
  unfold ordB
  have e1 : (ns.map V.int).map valI = ns := by
    rw [List.map_map]
    conv => rhs; rw [← List.map_id ns]
    rfl
  rw [e1, h, Bool.and_true, List.all_map, List.all_eq_true]
  intro n hn
  exact decide_eq_true (perm_rng h n hn).1
theorem isO_of {H : Hp} {a : Addr} {ns : List Int} (ha : H a = some (.tup (ns.map V.int))) (h : permB ns = true) (hl : ns.length ≤ 1000) : IsO H (.ref a) true := by
  rw [← ordB_ints h]
  refine .tup ha (fun y hy => ?_) (by rw [List.length_map]; exact hl)
  obtain ⟨i, _, rfl⟩ := List.mem_map.mp hy
  exact .int i
theorem IsO.keep {H H' : Hp} {x : V} {b : Bool} (h : IsO H x b) (s : Same H H') : IsO H' x b := by
  cases h with
  | @no x p n =>
    refine .no (p.keep s) fun a xs e z => ?_
    subst e
    cases p with
    | tup e => exact n _ _ rfl e
    | lst e => rw [s _ _ e] at z; cases z
    | dct e => rw [s _ _ e] at z; cases z
  | tup e p l => exact .tup (s _ _ e) (fun y hy => (p y hy).keep s) l
def spIsOrd : Sp := fun vs H Q _ => ∃ x b, vs = [x] ∧ IsO H x b ∧ ∀ H', Same H H' → Q (.bl b) H'
def spCkNB (CN : Addr) : Sp := fun vs H Q E => ∃ x m n, vs = [x, .int m, .int n] ∧ Pl H x ∧ (numBB x m n = true → Q .non H) ∧ (numBB x m n = false → ∀ d, H d = none → E (.ref CN) (some d) (upd H d (.xd [("number", x)])))
def spCkOrd (CO : Addr) : Sp := fun vs H Q E => ∃ x b, vs = [x] ∧ IsO H x b ∧ ∀ H', Same H H' → (b = true → Q .non H') ∧ (b = false → ∀ d, H' d = none → E (.ref CO) (some d) (upd H' d (.xd [("order", x)])))
def ranksF (ns : List Int) : Nat → List Int
  | 0 => List.replicate ns.length 0
  | i + 1 => (ranksF ns i).set (ns.getD i 0).toNat (i : Nat)
def ranksM (ns : List Int) : List Int := ranksF ns ns.length ++ [-1]
theorem ranksF_len (ns : List Int) : ∀ i, (ranksF ns i).length = ns.length
  | 0 => by rw [ranksF, List.length_replicate]
  | i + 1 => by rw [ranksF, List.length_set, ranksF_len ns i]
def spRanks : Sp := fun vs H Q _ => ∃ (a : Addr) (ns : List Int), vs = [.ref a] ∧ H a = some (.tup (ns.map V.int)) ∧ permB ns = true ∧ ns.length ≤ 1000 ∧ ∀ p H', Same H H' → H' p = some (.lst ((ranksM ns).map V.int)) → Q (.ref p) H'
def dropAt (ns : List Int) (i : Nat) : Bool := decide ((ranksM ns).getD (ns.getD (i + 1) 0 + 1).toNat 0 < (ranksM ns).getD (ns.getD i 0 + 1).toNat 0)
def dropsM (ns : List Int) : List Int := ((List.range (ns.length - 1)).filter (dropAt ns)).map fun i => (0 : Int) + (i : Nat)
def spDrops (CO : Addr) : Sp := fun vs H Q E => ∃ x b, vs = [x] ∧ IsO H x b ∧ (b = false → ∀ H1 d, Same H H1 → H1 d = none → E (.ref CO) (some d) (upd H1 d (.xd [("order", x)]))) ∧
  (b = true → ∀ a ns, x = .ref a → H a = some (.tup (ns.map V.int)) → ∀ p H', Same H H' → H' p = some (.lst ((dropsM ns).map V.int)) → Q (.ref p) H')
theorem atI_int {xs : List V} {k : Int} {v : V} (h0 : 0 ≤ k) (h : xs[k.toNat]? = some v) : atI xs k = some v := by
  have e : k = ((k.toNat : Nat) : Int) := by omega
  rw [e]
  exact atI_nat h
theorem ixN_int {n : Nat} {k : Int} (h0 : 0 ≤ k) (h1 : k < n) : ixN n k = some k.toNat := by
  unfold ixN
  rw [if_pos h0, if_pos (by omega)]
section
variable {P : Program} {w : World} {K : PySem.W.Frag} {mg : Str → Option Value} {base : Heap}
theorem scIsOrd : FnScope ["value", "place"] ["value"] (defScope sIsOrd) := ⟨rfl, rfl, rfl, by decide +kernel, rfl, by decide +kernel, by decide +kernel⟩
theorem scCkNB : FnScope ["number", "least", "greatest"] ["number", "least", "greatest"] (defScope sCkNB) := ⟨rfl, rfl, rfl, by decide +kernel, rfl, by decide +kernel, by decide +kernel⟩
theorem scCkOrd : FnScope ["order"] ["order"] (defScope sCkOrd) := ⟨rfl, rfl, rfl, by decide +kernel, rfl, by decide +kernel, by decide +kernel⟩
theorem scRanks : FnScope ["order", "ranks", "rank", "place"] ["order"] (defScope sRanks) := ⟨rfl, rfl, rfl, by decide +kernel, rfl, by decide +kernel, by decide +kernel⟩
theorem scDrops : FnScope ["order", "ranks", "at"] ["order"] (defScope sDrops) := ⟨rfl, rfl, rfl, by decide +kernel, rfl, by decide +kernel, by decide +kernel⟩
theorem ok_isOrd {f fN : Addr} {fd fdN : FuncData} (F : Fun K "is_order" "is_order" sIsOrd f fd) (T : TxtC K mg)
    (GN : FnOk P w K mg base CX0 1 fN fdN ["value", "least"] spNumber) (gN : mg "is_number" = some (.ref fN)) (kN : PySem.W.keepIn K (.ref fN) = true) (bN : Binds K fdN ["value", "least"] []) :
    FnOk P w K mg base CX0 2 f fd ["value"] spIsOrd := by
  refine F.ok scIsOrd (fun vs H Q E h => ?_) (fun cdv A outer s H vs Q E hr h => ?_)
  · obtain ⟨x, b, rfl, _⟩ := h
    rfl
  · obtain ⟨x, b, rfl, hO, k⟩ := h
    have nd := scIsOrd.nd
    have hu : (A.deeper (PyProof.Rows.envOfC "is_order" (defScope sIsOrd) s.heap.objs.size f cdv)).units + 64 < cLine := hr.units
    have hr1 : Room 1 _ := hr
    have hz : sizeLine = 2 ^ 24 := sizeLine_eq
    refine ⟨_, (pss_cons (ps_if (PW.pt (pw_or (pt_not (pt_val (pe_callB call_isi (by rfl) T.isinstance (by decide +kernel) (pa_cons (pv 0) (pa_cons (pe_bltn (v := .ty "tuple") rfl T.tuple (by decide +kernel) rfl) pa_nil))))) (pw_or1 (pt_not (pt_val (pe_callB (cr_all rfl) (by rfl) T.all (by decide +kernel) (pa_cons (pe_lc (own := [("place", 1)]) (g := gName 1) (tt := tYes) rfl nd (pi_tup (pv 0)) (blkOk_by (N := ["value", "place"]) (sc := defScope sIsOrd) (by decide +kernel)) (fun _ _ _ _ _ => (pg_name (i := 1) nd rfl (Or.inl rfl))) (fun _ _ _ _ _ => pts_nil) (fun _ _ _ _ _ => (pe_call GN hr1 rfl gN kN bN .nil pass0 (pa_cons (pv 1) (pa_cons pe_int pa_nil))))) pa_nil))))))) (pss_one (ps_ret pe_bl)) pss_nil)
      (pss_one (ps_ret (pe_cmpR (op_eqD hu) (pe_callB cr_sortedTI (by rfl) T.sorted (by decide +kernel) (pa_cons (pv 0) pa_nil)) (pe_listRg rfl (by rfl) T.list (prg_1 (by rfl) T.range (pe_callB call_len_seq (by rfl) T.len (by decide +kernel) (pa_cons (pv 0) pa_nil)))) (nomark _))))), ?_⟩
    cases hO with
    | no p n =>
      rcases p.isTup (K := K) with ⟨a, xs, rfl, e, _⟩ | ⟨_, t, ht, hk⟩
      · exact absurd e (n _ _ rfl)
      · exact ⟨_, rfl, _, _, _, _, _, rfl, .ty _, ht, hk, _, rfl, k H (.refl _)⟩
    | @tup a xs e p l =>
      refine ⟨_, rfl, _, _, _, _, true, rfl, .ty _, .base (.tup e), kit_ty (by decide +kernel), _, rfl, ?_⟩
      refine ⟨_, rfl, a, rfl, ⟨xs, .of e⟩, fun D nD => lcM_tup (K := K) (R := fun H y z => y = z ∧ Pl H y) (R' := fun H y b => y = V.bl b) (zs := xs) (fun _ => true) (fun y => numB y 0) nD (.of e) ?_ ?_ (fun _ _ _ _ _ r => r) (by omega) ?_ ?_⟩
      · have := All2.map (R := fun y z => y = z ∧ Pl H y) (f := id) (g := id) (cs := xs) fun c hc => ⟨rfl, p c hc⟩
        simpa using this
      · rintro H H' y z s ⟨rfl, q⟩
        exact ⟨rfl, q.keep s⟩
      · rintro i y z H2 C C0 hz s ⟨rfl, q⟩ c1 c0
        exact ⟨rfl, ⟨_, rfl, y, 0, rfl, q, c1 rfl _ _ (fun _ _ e => e) rfl⟩⟩
      · intro ys H2 s2 hD ha
        rw [List.filter_eq_self.mpr fun _ _ => rfl] at ha
        have ey := All2.eq_map (f := V.bl) ha
        refine ⟨D, xs.map (fun y => numB y 0), rfl, .of (by rw [hD, ey]), _, rfl, ?_⟩
        have ea : (xs.map fun y => numB y 0).all id = xs.all fun y => numB y 0 := by rw [List.all_map]; rfl
        rw [ea]
        by_cases hall : (xs.all fun y => numB y 0) = true
        · rw [hall]
          have ei : xs = (xs.map valI).map V.int := by
            have : ∀ zs : List V, zs.all (numB · 0) = true → zs = (zs.map valI).map V.int := fun zs => by
              induction zs with
              | nil => intro _; rfl
              | cons z zs ih =>
                intro hz
                rw [List.all_cons, Bool.and_eq_true] at hz
                obtain ⟨i, rfl, _⟩ := numB_int hz.1
                rw [List.map_cons, List.map_cons, ← ih hz.2]
                rfl
            exact this xs hall
          have e2 := s2 _ _ e
          rw [ei] at e2
          refine ⟨_, rfl, a, _, rfl, .of e2, fun ms q1 hp hs nq => ?_⟩
          obtain ⟨H3, e3, S3, A3⟩ := alloc (o := .lst (ms.map V.int)) nq
          rw [e3]
          have hlx : ((xs.map valI).map V.int).length = xs.length := by rw [List.length_map, List.length_map]
          refine ⟨_, rfl, a, _, rfl, .inr (.of (S3 _ _ e2)), _, rfl, ?_⟩
          rw [hlx]
          refine ⟨.of_le (by omega) (by omega) (by omega) (by omega), fun q2 nq2 => ?_⟩
          rw [rgV_eq]
          obtain ⟨H4, e4, S4, A4⟩ := alloc (o := .lst ((rangeI xs.length).map V.int)) nq2
          rw [e4]
          refine ⟨lI ms, lI (rangeI xs.length), dp_lI (.of (S4 _ _ A3)), dp_lI (.of A4), shaped_lI _, shaped_lI _, ?_⟩
          rw [eqv_lI]
          have eb : ordB xs = decide (ms = rangeI xs.length) := by
            unfold ordB
            rw [hall, Bool.true_and]
            unfold permB
            rw [sort_is hp hs, List.length_map]
          rw [← eb]
          exact k _ fun b o e => S4 _ _ (S3 _ _ (s2 _ _ e))
        · have hall2 : (xs.all fun y => numB y 0) = false := by simpa using hall
          rw [hall2]
          have eb : ordB xs = false := by
            unfold ordB
            rw [hall2, Bool.false_and]
          rw [eb] at k
          exact k _ s2
theorem ok_ckNB {f fB CN iN : Addr} {fd fdB : FuncData} (F : Fun K "check_number_between" "check_number_between" sCkNB f fd) (TN : ErrTxt P K mg "NoNumber" "number" CN iN)
    (GB : FnOk P w K mg base CX0 2 fB fdB ["value", "least", "greatest"] spNB) (gB : mg "is_number_between" = some (.ref fB)) (kB : PySem.W.keepIn K (.ref fB) = true) (bB : Binds K fdB ["value", "least", "greatest"] []) :
    FnOk P w K mg base (L2.CX P w) 3 f fd ["number", "least", "greatest"] (spCkNB CN) := by
  refine F.okX scCkNB (fun vs H Q E h => ?_) (fun cdv A outer s H vs Q E hr h => ?_)
  · obtain ⟨x, m, n, rfl, _⟩ := h
    rfl
  · obtain ⟨x, m, n, rfl, hp, k1, k2⟩ := h
    have nd := scCkNB.nd
    have hr2 : Room 2 _ := hr
    refine ⟨_, pss_one (ps_if (pt_not (pt_val (pe_call GB hr2 rfl gB kB bB .nil pass0 (pa_cons (pv 0) (pa_cons (pv 1) (pa_cons (pv 2) pa_nil)))))) (pss_one (ps_raiseErr rfl TN hr (takes_of rfl rfl rfl rfl) (pa_cons (pv 0) pa_nil) rfl)) pss_nil), ?_⟩
    refine ⟨_, rfl, _, rfl, _, rfl, x, m, n, rfl, hp, _, rfl, ?_⟩
    by_cases hb : numBB x m n = true
    · rw [hb]
      exact k1 hb
    · rw [Bool.not_eq_true] at hb
      rw [hb]
      exact ⟨_, rfl, x, rfl, fun d hd => k2 hb d hd⟩
theorem ok_ckOrd {f fO CO iO : Addr} {fd fdO : FuncData} (F : Fun K "check_order" "check_order" sCkOrd f fd) (TO : ErrTxt P K mg "NoOrder" "order" CO iO)
    (GO : FnOk P w K mg base CX0 2 fO fdO ["value"] spIsOrd) (gO : mg "is_order" = some (.ref fO)) (kO : PySem.W.keepIn K (.ref fO) = true) (bO : Binds K fdO ["value"] []) :
    FnOk P w K mg base (L2.CX P w) 3 f fd ["order"] (spCkOrd CO) := by
  refine F.okX scCkOrd (fun vs H Q E h => ?_) (fun cdv A outer s H vs Q E hr h => ?_)
  · obtain ⟨x, b, rfl, _⟩ := h
    rfl
  · obtain ⟨x, b, rfl, hc, k⟩ := h
    have hr2 : Room 2 _ := hr
    refine ⟨_, pss_one (ps_if (pt_not (pt_val (pe_call GO hr2 rfl gO kO bO .nil pass0 (pa_cons (pv 0) pa_nil)))) (pss_one (ps_raiseErr rfl TO hr (takes_of rfl rfl rfl rfl) (pa_cons (pv 0) pa_nil) rfl)) pss_nil), ?_⟩
    refine ⟨_, rfl, x, b, rfl, hc, fun H1 s1 => ⟨_, rfl, ?_⟩⟩
    obtain ⟨k1, k2⟩ := k H1 s1
    by_cases hb : b = true
    · rw [hb]
      exact k1 hb
    · rw [Bool.not_eq_true] at hb
      rw [hb]
      exact ⟨_, rfl, x, rfl, fun d hd => k2 hb d hd⟩
theorem ok_ranks {f : Addr} {fd : FuncData} (F : Fun K "_ranks" "_ranks" sRanks f fd) (T : TxtC K mg) : FnOk P w K mg base CX0 1 f fd ["order"] spRanks := by
  refine F.ok scRanks (fun vs H Q E h => ?_) (fun cdv A outer s H vs Q E hr h => ?_)
  · obtain ⟨a, ns, rfl, _⟩ := h
    rfl
  · obtain ⟨a, ns, rfl, ha, hp, hl, k⟩ := h
    have nd := scRanks.nd
    have hz : sizeLine = 2 ^ 24 := sizeLine_eq
    have hrng := perm_rng hp
    refine ⟨_, (pss_cons (ps_set (i := 1) nd rfl (Or.inl rfl) (pe_op op_rep (pe_lst (pa_cons pe_int pa_nil)) (pe_callB call_len_seq (by rfl) T.len (by decide +kernel) (pa_cons (pv 0) pa_nil))))
      (pss_cons (ps_for PassesOwn.never rfl (pi_enumT (by rfl) T.enumerate (pa_cons (pv 0) pa_nil)) (pg_tup rfl (pgs_cons (pg_name (i := 2) nd rfl (Or.inl rfl)) (pgs_cons (pg_name (i := 3) nd rfl (Or.inl rfl)) pgs_nil))) (pss_one (ps_asg (pv 2) (pg_sub (pv 1) (pv 3) set_list))))
      (pss_one (ps_ret (pe_op op_cat (pv 1) (pe_lst (pa_cons (pe_un un_neg pe_int) pa_nil))))))), ?_⟩
    refine ⟨(by show 1 ≤ sizeLine; decide), fun p0 z0 => ?_⟩
    obtain ⟨H1, e1, S1, A1⟩ := alloc (o := .lst [.int 0]) z0
    rw [e1]
    refine ⟨_, rfl, a, _, rfl, .inr (.of (S1 _ _ ha)), p0, _, _, rfl, rfl, A1, ?_⟩
    rw [List.length_map]
    refine ⟨by omega, by omega, by show 1 * _ ≤ _; omega, fun p z1 => ?_⟩
    have er : (List.replicate ((ns.length : Int)).toNat [V.int 0]).flatten = (ranksF ns 0).map V.int := by
      rw [List.flatten_replicate_singleton, ranksF, List.map_replicate, show ((ns.length : Int)).toNat = ns.length by omega]
    rw [er]
    obtain ⟨H2, e2, S2, A2⟩ := alloc (o := .lst ((ranksF ns 0).map V.int)) z1
    rw [e2]
    have np : H p = none := by
      cases hh : H p with
      | none => rfl
      | some o => rw [S1 _ _ hh] at z1; cases z1
    refine ⟨_, rfl, a, _, rfl, .of (S2 _ _ (S1 _ _ ha)), for_it walk_enumT (fun i σ H' => ∃ v2 v3 : Option V, σ = [some (.ref a), some (.ref p), v2, v3] ∧ Same H H' ∧ H' p = some (.lst ((ranksF ns i).map V.int))) ⟨none, none, rfl, S1.trans S2, A2⟩ (fun i σ H' _ ⟨_, _, _, s, _⟩ => .of (s _ _ ha)) ?_ ?_⟩
    · rintro i x σ H3 H4 hi ⟨v2, v3, rfl, s3, hp3⟩ ⟨T0, x1, y1, rfl, hT, rfl, q1, q2⟩
      rw [List.length_map] at hi
      cases q1
      have q2 : (ns.map V.int)[i]? = some y1 := q2
      rw [List.getElem?_map, List.getElem?_eq_getElem hi] at q2
      cases q2
      obtain ⟨H5, f5, S5, A5⟩ := alloc (o := .tup [V.int (i : Nat), V.int ns[i]]) hT
      rw [f5]
      have hr2 := hrng ns[i] (List.getElem_mem hi)
      refine ⟨T0, _, rfl, .of A5, rfl, _, _, rfl, _, _, rfl, rfl, _, rfl, _, rfl, _, rfl, p, _, _, _, rfl, rfl, S5 _ _ hp3, ixN_int hr2.1 (by rw [List.length_map, ranksF_len]; exact hr2.2), ⟨_, _, rfl, fun b o e => ?_, ?_⟩⟩
      · rw [upd_ne (ne_of_none e np)]
        exact S5 _ _ (s3 _ _ e)
      · rw [upd_same, ranksF, List.map_set]
        have eg : ns.getD i 0 = ns[i] := by rw [List.getD_eq_getElem?_getD, List.getElem?_eq_getElem hi]; rfl
        rw [eg]
    · rintro σ H3 ⟨v2, v3, rfl, s3, hp3⟩
      rw [List.length_map] at hp3
      refine ⟨_, rfl, _, rfl, (by show 1 ≤ sizeLine; decide), fun p4 z4 => ?_⟩
      obtain ⟨H4, e4, S4, A4⟩ := alloc (o := .lst [.int (-1)]) z4
      rw [e4]
      refine ⟨p, p4, _, _, rfl, rfl, S4 _ _ hp3, A4, by rw [List.length_map, ranksF_len]; show _ + 1 ≤ _; omega, fun p5 z5 => ?_⟩
      obtain ⟨H5, e5, S5, A5⟩ := alloc (o := .lst ((ranksF ns ns.length).map V.int ++ [.int (-1)])) z5
      rw [e5]
      refine k p5 H5 (fun b o e => S5 _ _ (S4 _ _ (s3 _ _ e))) ?_
      rw [A5]
      unfold ranksM
      rw [List.map_append]
      rfl
theorem ok_drops {f fCO fK CO : Addr} {fd fdCO fdK : FuncData} (F : Fun K "drops" "drops" sDrops f fd) (T : TxtC K mg)
    (GCO : FnOk P w K mg base (L2.CX P w) 3 fCO fdCO ["order"] (spCkOrd CO)) (gCO : mg "check_order" = some (.ref fCO)) (kCO : PySem.W.keepIn K (.ref fCO) = true) (bCO : Binds K fdCO ["order"] [])
    (GK : FnOk P w K mg base CX0 1 fK fdK ["order"] spRanks) (gK : mg "_ranks" = some (.ref fK)) (kK : PySem.W.keepIn K (.ref fK) = true) (bK : Binds K fdK ["order"] []) :
    FnOk P w K mg base (L2.CX P w) 4 f fd ["order"] (spDrops CO) := by
  refine F.okX scDrops (fun vs H Q E h => ?_) (fun cdv A outer s H vs Q E hr h => ?_)
  · obtain ⟨x, b, rfl, _⟩ := h
    rfl
  · obtain ⟨x, b, rfl, hO, kF, kT⟩ := h
    have nd := scDrops.nd
    have hr3 : Room 3 _ := hr
    have hr1 : Room 1 _ := hr.mono (by decide)
    have hz : sizeLine = 2 ^ 24 := sizeLine_eq
    refine ⟨_, (pss_cons (ps_expr (pe_call GCO hr3 rfl gCO kCO bCO .nil (passes_call (takes_of rfl rfl rfl rfl) fun _ _ _ _ h => h) (pa_cons (pv 0) pa_nil)))
      (pss_cons (ps_set (i := 1) nd rfl (Or.inr rfl) (pe_call GK hr1 rfl gK kK bK .nil pass0 (pa_cons (pv 0) pa_nil)))
      (pss_one (ps_ret (pe_lc (own := [("at", 2)]) (g := gName 2) rfl nd (pi_range1 (by rfl) T.range (pa_cons (pe_op op_sub (pe_callB call_len_seq (by rfl) T.len (by decide +kernel) (pa_cons (pv 0) pa_nil)) pe_int) pa_nil)) (blkOk_by (N := ["order", "ranks", "at"]) (sc := defScope sDrops) (by decide +kernel)) (fun _ _ _ _ _ => (pg_name (i := 2) nd rfl (Or.inl rfl))) (fun _ _ _ _ _ => (pts_one (pt_cmpR op_gt (pe_ix (r := rIxL K) ix_list (pv 1) (pe_op op_add (pe_ix (r := rIxT K) ix_tup (pv 0) (pv 2) (fun _ _ => rfl)) pe_int) (fun _ _ => rfl)) (pe_ix (r := rIxL K) ix_list (pv 1) (pe_op op_add (pe_ix (r := rIxT K) ix_tup (pv 0) (pe_op op_add (pv 2) pe_int) (fun _ _ => rfl)) pe_int) (fun _ _ => rfl)) (nomark _)))) (fun _ _ _ _ _ => (pv 2))))))), ?_⟩
    refine ⟨_, rfl, x, b, rfl, hO, fun H1 s1 => ⟨fun hb => ?_, fun hb d hd => kF hb H1 d s1 hd⟩⟩
    obtain ⟨a, ns, rfl, ha, hp, hl⟩ := hO.good hb
    have hrng := perm_rng hp
    refine ⟨_, rfl, a, ns, rfl, s1 _ _ ha, hp, hl, fun p H2 s2 A2 => ?_⟩
    have ha2 := s2 _ _ (s1 _ _ ha)
    refine ⟨_, rfl, a, _, rfl, .inr (.of ha2), _, _, rfl, rfl, _, rfl, ?_⟩
    rw [List.length_map]
    refine ⟨by omega, by omega, fun D nD => ?_⟩
    have en : ((ns.length : Int) - 1).toNat = ns.length - 1 := by omega
    rw [en]
    refine lcM_range (R' := RInt) (n := ns.length - 1) (dropAt ns) (fun k => (0 : Int) + (k : Nat)) nD rint_keep (by omega) ?_ ?_
    · intro i H3 C C0 hi s3 c1 c0
      have hi1 : i < ns.length := by omega
      have hi2 : i + 1 < ns.length := by omega
      have g1 := hrng ns[i] (List.getElem_mem hi1)
      have g2 := hrng ns[i + 1] (List.getElem_mem hi2)
      have hlr : (ranksM ns).length = ns.length + 1 := by
        unfold ranksM
        rw [List.length_append, ranksF_len]
        rfl
      have rk : ∀ m : Int, 0 ≤ m → m < ns.length → atI ((ranksM ns).map V.int) (m + 1) = some (.int ((ranksM ns).getD (m + 1).toNat 0)) := fun m h0 h1 => by
        refine atI_int (by omega) ?_
        have hlt : (m + 1).toNat < (ranksM ns).length := by rw [hlr]; omega
        rw [List.getElem?_map, List.getElem?_eq_getElem hlt, List.getD_eq_getElem?_getD, List.getElem?_eq_getElem hlt]
        rfl
      have e1 : atI (ns.map V.int) ((0 : Int) + (i : Nat)) = some (.int ns[i]) := by
        refine atI_int (by omega) ?_
        rw [show ((0 : Int) + (i : Nat)).toNat = i by omega, List.getElem?_map, List.getElem?_eq_getElem hi1]
        rfl
      have e2 : atI (ns.map V.int) ((0 : Int) + (i : Nat) + 1) = some (.int ns[i + 1]) := by
        refine atI_int (by omega) ?_
        rw [show ((0 : Int) + (i : Nat) + 1).toNat = i + 1 by omega, List.getElem?_map, List.getElem?_eq_getElem hi2]
        rfl
      have ed : dropAt ns i = decide ((ranksM ns).getD (ns[i + 1] + 1).toNat 0 < (ranksM ns).getD (ns[i] + 1).toNat 0) := by
        unfold dropAt
        rw [List.getD_eq_getElem?_getD (l := ns), List.getElem?_eq_getElem hi2, List.getD_eq_getElem?_getD (l := ns) (i := i), List.getElem?_eq_getElem hi1]
        rfl
      refine ⟨rfl, _, rfl, _, rfl, _, rfl, a, _, _, _, rfl, rfl, .of (s3 _ _ ha2), e1, _, _, rfl, rfl, p, _, _, _, rfl, rfl, .of (s3 _ _ A2), rk _ g1.1 g1.2, ?_⟩
      refine ⟨_, rfl, _, rfl, _, rfl, _, _, rfl, rfl, a, _, _, _, rfl, rfl, .of (s3 _ _ ha2), e2, _, _, rfl, rfl, p, _, _, _, rfl, rfl, .of (s3 _ _ A2), rk _ g2.1 g2.2, _, _, rfl, rfl, _, rfl, ?_⟩
      by_cases hb : dropAt ns i = true
      · rw [ed] at hb
        rw [hb]
        exact ⟨_, rfl, c1 (by rw [ed]; exact hb) _ _ (fun _ _ e => e) rfl⟩
      · have hb2 : dropAt ns i = false := by simpa using hb
        rw [ed] at hb2
        rw [hb2]
        exact c0 (by rw [ed]; exact hb2) _ fun _ _ e => e
    · intro ys H3 s3 hD hy
      have ey := rint_map hy
      exact kT hb a ns rfl ha D H3 (fun b o e => s3 _ _ (s2 _ _ (s1 _ _ e))) (by rw [hD, ey]; rfl)
end
end T21

set_option Elab.async false
set_option linter.all false
set_option maxRecDepth 100000
set_option maxHeartbeats 4000000
namespace T21
open PySem L2 EK
def numO (ns : List Int) (l : Int) : Int := if ns = [] then 1 else PySem.W.mcComb ((ns.length : Int) + l - ((dropsM ns).length : Nat) - 1) (ns.length : Int)
def spOrdN (CO CN : Addr) : Sp := fun vs H Q E => ∃ x y b, vs = [x, y] ∧ IsO H x b ∧ Pl H y ∧ (b = false → ∀ H1 d, Same H H1 → H1 d = none → E (.ref CO) (some d) (upd H1 d (.xd [("order", x)]))) ∧
  (b = true → numBB y 0 26 = false → ∀ H1 d, Same H H1 → H1 d = none → E (.ref CN) (some d) (upd H1 d (.xd [("number", y)]))) ∧
  (b = true → ∀ a ns l, x = .ref a → H a = some (.tup (ns.map V.int)) → y = .int l → 0 ≤ l → l ≤ 26 → ∀ H', Same H H' → Q (.int (numO ns l)) H')
/-- the letters put down after i places, and the letter's number -/
def ltNum (ns : List Int) : Nat → Nat
  | 0 => 0
  | i + 1 => if (dropsM ns).any (· == ((i : Nat) : Int)) = true then ltNum ns i + 1 else ltNum ns i
def ltF (ns : List Int) : Nat → List Str
  | 0 => List.replicate ns.length ""
  | i + 1 => (ltF ns i).set (ns.getD i 0).toNat ⟨#[letS.cps.getD (ltNum ns i) 0]⟩
def textM (ns : List Int) : Str := Txt.join "" (ltF ns ns.length)
theorem ltF_len (ns : List Int) : ∀ i, (ltF ns i).length = ns.length
  | 0 => by rw [ltF, List.length_replicate]
  | i + 1 => by rw [ltF, List.length_set, ltF_len ns i]
theorem ltNum_le (ns : List Int) : ∀ i, ltNum ns i ≤ i
  | 0 => Nat.le_refl _
  | i + 1 => by
    have := ltNum_le ns i
    rw [ltNum]
    split <;> omega
theorem ltF_short (ns : List Int) : ∀ i, ∀ z ∈ ltF ns i, z.length ≤ 1
  | 0, z, hz => by
    rw [ltF] at hz
    rw [(List.mem_replicate.mp hz).2]
    decide
  | i + 1, z, hz => by
    rw [ltF] at hz
    rcases List.mem_or_eq_of_mem_set hz with h | h
    · exact ltF_short ns i z h
    · rw [h]
      exact Nat.le_refl 1
theorem dropsM_len (ns : List Int) : (dropsM ns).length ≤ ns.length - 1 := by
  unfold dropsM
  rw [List.length_map]
  refine Nat.le_trans (List.length_filter_le _ _) ?_
  rw [List.length_range]
  exact Nat.le_refl _
def spLeastT (CO : Addr) : Sp := fun vs H Q E => ∃ x b, vs = [x] ∧ IsO H x b ∧ (b = false → ∀ H1 d, Same H H1 → H1 d = none → E (.ref CO) (some d) (upd H1 d (.xd [("order", x)]))) ∧
  (b = true → ∀ a ns, x = .ref a → H a = some (.tup (ns.map V.int)) → ns.length ≤ 20 ∧ ∀ H', Same H H' → Q (.str (textM ns)) H')
theorem sum_le : ∀ {zs : List Str}, (∀ z ∈ zs, z.length ≤ 1) → (zs.map (·.length)).sum ≤ zs.length
  | [], _ => Nat.le_refl _
  | z :: zs, h => by
    have h1 := h z List.mem_cons_self
    have h2 := sum_le (zs := zs) fun y hy => h y (List.mem_cons_of_mem _ hy)
    rw [List.map_cons, List.sum_cons, List.length_cons]
    omega
section
variable {P : Program} {w : World} {K : PySem.W.Frag} {mg : Str → Option Value} {base : Heap} {CO CN fCO fCB fD : Addr} {fdCO fdCB fdD : FuncData}
theorem scOrdN : FnScope ["order", "letters", "size"] ["order", "letters"] (defScope sOrdN) := ⟨rfl, rfl, rfl, by decide +kernel, rfl, by decide +kernel, by decide +kernel⟩
theorem scLeastT : FnScope ["order", "dropped", "letters", "number", "at", "place"] ["order"] (defScope sLeastT) := ⟨rfl, rfl, rfl, by decide +kernel, rfl, by decide +kernel, by decide +kernel⟩
theorem ok_ordN {f : Addr} {fd : FuncData} (F : Fun K "orders_number" "orders_number" sOrdN f fd) (T : TxtC K mg)
    (GCO : FnOk P w K mg base (L2.CX P w) 3 fCO fdCO ["order"] (spCkOrd CO)) (gCO : mg "check_order" = some (.ref fCO)) (kCO : PySem.W.keepIn K (.ref fCO) = true) (bCO : Binds K fdCO ["order"] [])
    (GCB : FnOk P w K mg base (L2.CX P w) 3 fCB fdCB ["number", "least", "greatest"] (spCkNB CN)) (gCB : mg "check_number_between" = some (.ref fCB)) (kCB : PySem.W.keepIn K (.ref fCB) = true) (bCB : Binds K fdCB ["number", "least", "greatest"] [])
    (GD : FnOk P w K mg base (L2.CX P w) 4 fD fdD ["order"] (spDrops CO)) (gD : mg "drops" = some (.ref fD)) (kD : PySem.W.keepIn K (.ref fD) = true) (bD : Binds K fdD ["order"] []) :
    FnOk P w K mg base (L2.CX P w) 5 f fd ["order", "letters"] (spOrdN CO CN) := by
  refine F.okX scOrdN (fun vs H Q E h => ?_) (fun cdv A outer s H vs Q E hr h => ?_)
  · obtain ⟨x, y, b, rfl, _⟩ := h
    rfl
  · obtain ⟨x, y, b, rfl, hO, py, kF, kN, kT⟩ := h
    have nd := scOrdN.nd
    have hr4 : Room 4 _ := hr
    have hr3 : Room 3 _ := hr.mono (by decide)
    have hz : sizeLine = 2 ^ 24 := sizeLine_eq
    refine ⟨_, (pss_cons (ps_expr (pe_call GCO hr3 rfl gCO kCO bCO .nil (passes_call (takes_of rfl rfl rfl rfl) fun _ _ _ _ h => h) (pa_cons (pv 0) pa_nil)))
      (pss_cons (ps_expr (pe_call GCB hr3 rfl gCB kCB bCB .nil (passes_call (takes_of rfl rfl rfl rfl) fun _ _ _ _ h => h) (pa_cons (pv 1) (pa_cons pe_int (pa_cons (pe_callB call_len_str (by rfl) T.len (by decide +kernel) (pa_cons (C8.pe_gc (by rfl) T.letters) pa_nil)) pa_nil)))))
      (pss_cons (ps_set (i := 2) nd rfl (Or.inl rfl) (pe_callB call_len_seq (by rfl) T.len (by decide +kernel) (pa_cons (pv 0) pa_nil)))
      (pss_cons (ps_if (pt_cmpR op_eq (pv 2) pe_int (nomark _)) (pss_one (ps_ret pe_int)) pss_nil)
      (pss_one (ps_ret (pe_callBfun cr_comb (by rfl) T.comb (pa_cons (pe_op op_sub (pe_op op_sub (pe_op op_add (pv 2) (pv 1)) (pe_callB call_len_seq (by rfl) T.len (by decide +kernel) (pa_cons (pe_call GD hr4 rfl gD kD bD .nil (passes_call (takes_of rfl rfl rfl rfl) fun _ _ _ _ h => h) (pa_cons (pv 0) pa_nil)) pa_nil))) pe_int) (pa_cons (pv 2) pa_nil))))))))), ?_⟩
    refine ⟨_, rfl, x, b, rfl, hO, fun H1 s1 => ⟨fun hb => ?_, fun hb d hd => kF hb H1 d s1 hd⟩⟩
    obtain ⟨a, ns, rfl, ha, hp, hl⟩ := hO.good hb
    refine ⟨_, rfl, _, rfl, (by decide), y, 0, 26, rfl, py.keep s1, fun hy => ?_, fun hy d hd => kN hb hy H1 d s1 hd⟩
    obtain ⟨l, rfl, l1, l2⟩ := numBB_int hy
    have ha1 := s1 _ _ ha
    refine ⟨_, rfl, a, _, rfl, .inr (.of ha1), _, rfl, rfl, _, rfl, ?_⟩
    rw [List.length_map]
    refine ite2 (fun h0 => ?_) (fun h0 => ?_)
    · have e0 : ns = [] := by
        have := of_decide_eq_true h0
        injection this with this
        exact List.length_eq_zero_iff.mp (by omega)
      have := kT hb a ns l rfl ha rfl l1 l2 H1 s1
      unfold numO at this
      rw [if_pos e0] at this
      exact this
    · have e0 : ns ≠ [] := fun z => h0 (by rw [z]; rfl)
      have hpos := List.length_pos_iff.mpr e0
      refine ⟨_, rfl, _, rfl, _, _, rfl, rfl, _, rfl, .ref a, b, rfl, hO.keep s1, fun z => absurd z (by rw [hb]; decide), fun _ a' ns' ea ha' p H2 s2 A2 => ?_⟩
      cases ea
      rw [ha1] at ha'
      have ens : ns' = ns := by
        injection ha' with ha'
        injection ha' with ha'
        have := congrArg (List.map valI) ha'
        rw [List.map_map, List.map_map] at this
        exact (by simpa [Function.comp_def, valI] using this : ns = ns').symm
      subst ens
      have hdl := dropsM_len ns'
      refine ⟨p, _, rfl, .inl (.of A2), _, _, rfl, rfl, _, _, rfl, rfl, _, rfl, _, _, rfl, ?_⟩
      rw [List.length_map]
      refine ⟨by omega, by omega, by omega, by omega, ?_⟩
      have := kT hb a ns' l rfl ha rfl l1 l2 H2 (s1.trans s2)
      unfold numO at this
      rw [if_neg e0] at this
      exact this
theorem ok_leastT {f : Addr} {fd : FuncData} (F : Fun K "least_text" "least_text" sLeastT f fd) (T : TxtC K mg)
    (GCO : FnOk P w K mg base (L2.CX P w) 3 fCO fdCO ["order"] (spCkOrd CO)) (gCO : mg "check_order" = some (.ref fCO)) (kCO : PySem.W.keepIn K (.ref fCO) = true) (bCO : Binds K fdCO ["order"] [])
    (GD : FnOk P w K mg base (L2.CX P w) 4 fD fdD ["order"] (spDrops CO)) (gD : mg "drops" = some (.ref fD)) (kD : PySem.W.keepIn K (.ref fD) = true) (bD : Binds K fdD ["order"] []) :
    FnOk P w K mg base (L2.CX P w) 5 f fd ["order"] (spLeastT CO) := by
  refine F.okX scLeastT (fun vs H Q E h => ?_) (fun cdv A outer s H vs Q E hr h => ?_)
  · obtain ⟨x, b, rfl, _⟩ := h
    rfl
  · obtain ⟨x, b, rfl, hO, kF, kT⟩ := h
    have nd := scLeastT.nd
    have hr4 : Room 4 _ := hr
    have hr3 : Room 3 _ := hr.mono (by decide)
    have hz : sizeLine = 2 ^ 24 := sizeLine_eq
    refine ⟨_, (pss_cons (ps_expr (pe_call GCO hr3 rfl gCO kCO bCO .nil (passes_call (takes_of rfl rfl rfl rfl) fun _ _ _ _ h => h) (pa_cons (pv 0) pa_nil)))
      (pss_cons (ps_set (i := 1) nd rfl (Or.inl rfl) (pe_call GD hr4 rfl gD kD bD .nil (passes_call (takes_of rfl rfl rfl rfl) fun _ _ _ _ h => h) (pa_cons (pv 0) pa_nil)))
      (pss_cons (ps_if (pt_cmpR op_ge (pe_callB call_len_seq (by rfl) T.len (by decide +kernel) (pa_cons (pv 1) pa_nil)) (pe_callB call_len_str (by rfl) T.len (by decide +kernel) (pa_cons (C8.pe_gc (by rfl) T.letters) pa_nil)) (nomark _)) (pss_one (ps_ret pe_non)) pss_nil)
      (pss_cons (ps_set (i := 2) nd rfl (Or.inl rfl) (pe_op op_rep (pe_lst (pa_cons pe_str pa_nil)) (pe_callB call_len_seq (by rfl) T.len (by decide +kernel) (pa_cons (pv 0) pa_nil))))
      (pss_cons (ps_set (i := 3) nd rfl (Or.inl rfl) pe_int)
      (pss_cons (ps_for (passes_of rfl) rfl (pi_enumT (by rfl) T.enumerate (pa_cons (pv 0) pa_nil)) (pg_tup rfl (pgs_cons (pg_name (i := 4) nd rfl (Or.inl rfl)) (pgs_cons (pg_name (i := 5) nd rfl (Or.inl rfl)) pgs_nil))) (pss_cons (ps_asg (pe_ix ix_str (C8.pe_gc (by rfl) T.letters) (pv 3) (fun _ _ => rfl)) (pg_sub (pv 2) (pv 5) set_list))
      (pss_one (ps_if (pt_cmpR op_in_seq (pv 4) (pv 1) (by rfl)) (pss_one (ps_aug (i := 3) nd rfl (.inl rfl) pe_int ip_add)) pss_nil))))
      (pss_one (ps_ret (pe_join pe_str (pv 2)))))))))), ?_⟩
    refine ⟨_, rfl, x, b, rfl, hO, fun H1 s1 => ⟨fun hb => ?_, fun hb d hd => kF hb H1 d s1 hd⟩⟩
    obtain ⟨a, ns, rfl, ha, hp, hl⟩ := hO.good hb
    obtain ⟨h20, kk⟩ := kT hb a ns rfl ha
    have hrng := perm_rng hp
    have ha1 := s1 _ _ ha
    refine ⟨_, rfl, .ref a, b, rfl, hO.keep s1, fun z => absurd z (by rw [hb]; decide), fun _ a' ns' ea ha' pd H2 s2 A2 => ?_⟩
    cases ea
    rw [ha1] at ha'
    have ens : ns' = ns := by
      injection ha' with ha'
      injection ha' with ha'
      have := congrArg (List.map valI) ha'
      rw [List.map_map, List.map_map] at this
      exact (by simpa [Function.comp_def, valI] using this : ns = ns').symm
    subst ens
    have hdl := dropsM_len ns'
    refine ⟨_, rfl, pd, _, rfl, .inl (.of A2), _, rfl, (by decide), _, _, rfl, rfl, _, rfl, ?_⟩
    rw [List.length_map]
    have h26 : letS.length = 26 := by decide
    refine ite2 (fun h0 => absurd (of_decide_eq_true h0) (by rw [h26]; omega)) (fun h0 => ?_)
    refine ⟨(by show 1 ≤ sizeLine; decide), fun p0 z0 => ?_⟩
    obtain ⟨H3, e3, S3, A3⟩ := alloc (o := .lst [.str ""]) z0
    rw [e3]
    refine ⟨_, rfl, a, _, rfl, .inr (.of (S3 _ _ (s2 _ _ ha1))), p0, _, _, rfl, rfl, A3, ?_⟩
    rw [List.length_map]
    refine ⟨by omega, by omega, by show 1 * _ ≤ _; omega, fun p z1 => ?_⟩
    have er : (List.replicate ((ns'.length : Int)).toNat [V.str ""]).flatten = (ltF ns' 0).map V.str := by
      rw [List.flatten_replicate_singleton, ltF, List.map_replicate, show ((ns'.length : Int)).toNat = ns'.length by omega]
    rw [er]
    obtain ⟨H4, e4, S4, A4⟩ := alloc (o := .lst ((ltF ns' 0).map V.str)) z1
    rw [e4]
    have np : H2 p = none := by
      cases hh : H2 p with
      | none => rfl
      | some o => rw [S3 _ _ hh] at z1; cases z1
    refine ⟨_, rfl, a, _, rfl, .of (S4 _ _ (S3 _ _ (s2 _ _ ha1))), for_it walk_enumT (fun i σ H' => ∃ v4 v5 : Option V, σ = [some (.ref a), some (.ref pd), some (.ref p), some (.int (ltNum ns' i : Nat)), v4, v5] ∧ Same H2 H' ∧ H' p = some (.lst ((ltF ns' i).map V.str))) ⟨none, none, rfl, S3.trans S4, A4⟩ (fun i σ H' _ ⟨_, _, _, s, _⟩ => .of (s _ _ (s2 _ _ ha1))) ?_ ?_⟩
    · rintro i x σ H5 H6 hi ⟨v4, v5, rfl, s5, hp5⟩ ⟨T0, x1, y1, rfl, hT, rfl, q1, q2⟩
      rw [List.length_map] at hi
      cases q1
      have q2 : (ns'.map V.int)[i]? = some y1 := q2
      rw [List.getElem?_map, List.getElem?_eq_getElem hi] at q2
      cases q2
      obtain ⟨H7, f7, S7, A7⟩ := alloc (o := .tup [V.int (i : Nat), V.int ns'[i]]) hT
      rw [f7]
      have hr2 := hrng ns'[i] (List.getElem_mem hi)
      have hln := ltNum_le ns' i
      have hc : atI letS.cps.toList ((ltNum ns' i : Nat) : Int) = some (letS.cps.getD (ltNum ns' i) 0) := by
        refine atI_nat ?_
        have h26b : letS.cps.size = 26 := by decide
        have hlt : ltNum ns' i < letS.cps.size := by rw [h26b]; omega
        rw [Array.getElem?_toList, Array.getElem?_eq_getElem hlt, Array.getD_eq_getD_getElem?, Array.getElem?_eq_getElem hlt]
        rfl
      refine ⟨T0, _, rfl, .of A7, rfl, _, _, rfl, _, _, rfl, rfl, _, rfl, _, _, _, rfl, rfl, (by decide), hc, _, rfl, _, rfl, p, _, _, _, rfl, rfl, S7 _ _ hp5, ixN_int hr2.1 (by rw [List.length_map, ltF_len]; exact hr2.2), ?_⟩
      have S8 : Same H2 (upd H7 p (.lst (((ltF ns' i).map V.str).set ns'[i].toNat (.str ⟨#[letS.cps.getD (ltNum ns' i) 0]⟩)))) := fun b o e => by
        rw [upd_ne (ne_of_none e np)]
        exact S7 _ _ (s5 _ _ e)
      have A8 : (upd H7 p (.lst (((ltF ns' i).map V.str).set ns'[i].toNat (.str ⟨#[letS.cps.getD (ltNum ns' i) 0]⟩)))) p = some (.lst ((ltF ns' (i + 1)).map V.str)) := by
        have eg : ns'.getD i 0 = ns'[i] := by rw [List.getD_eq_getElem?_getD, List.getElem?_eq_getElem hi]; rfl
        rw [upd_same, ltF, List.map_set, eg]
      refine ⟨_, rfl, _, rfl, pd, _, rfl, .inl (.of (S8 _ _ A2)), rfl, flat_ints _, _, rfl, ?_⟩
      rw [inV_ints]
      by_cases hd : (dropsM ns').any (· == ((i : Nat) : Int)) = true
      · rw [hd]
        refine ⟨_, rfl, _, _, rfl, rfl, some (.int (i : Nat)), some (.int ns'[i]), ?_, S8, A8⟩
        rw [ltNum, if_pos hd]
        rfl
      · have hd2 : (dropsM ns').any (· == ((i : Nat) : Int)) = false := Bool.eq_false_iff.mpr hd
        rw [hd2]
        refine ⟨some (.int (i : Nat)), some (.int ns'[i]), ?_, S8, A8⟩
        rw [ltNum, if_neg hd]
        rfl
    · rintro σ H5 ⟨v4, v5, rfl, s5, hp5⟩
      rw [List.length_map] at hp5
      have hsum := sum_le (ltF_short ns' ns'.length)
      have hlen := ltF_len ns' ns'.length
      refine ⟨⟨_, rfl⟩, _, rfl, _, p, _, rfl, rfl, .inl (.of hp5), ?_, kk H5 fun b o e => s5 _ _ (s2 _ _ (s1 _ _ e))⟩
      show (_ : Nat) + _ * 0 ≤ _
      omega
end
end T21

set_option Elab.async false
set_option linter.all false
set_option maxRecDepth 100000
set_option maxHeartbeats 4000000
namespace T21
open PySem L2 EK LamX
def isT (z : Str) : Bool := z.cps.toList.all fun c => decide (c ∈ letS.cps.toList)
def spText : Sp := fun vs H Q _ => ∃ z : Str, vs = [.str z] ∧ z.cps.size ≤ 1000 ∧ ∀ H', Same H H' → Q (.bl (isT z)) H'
def spCkText : Sp := fun vs H Q _ => ∃ z : Str, vs = [.str z] ∧ z.cps.size ≤ 1000 ∧ isT z = true ∧ ∀ H', Same H H' → Q .non H'
abbrev qOrd : Str := ("order_of" : Str) ++ ".<locals>." ++ "<lambda>"
def spOrderOf (PT : Addr) : Sp := fun vs H Q _ => ∃ z : Str, vs = [.str z] ∧ z.cps.size ≤ 1000 ∧ isT z = true ∧ Tabs [(PT, qOrd)] H ∧ ∀ p H', ExtN H H' → (∀ b, H' b = none → H b = none) → Tabs [(PT, qOrd)] H' → H' p = some (.tup ((ordM z).map V.int)) → Q (.ref p) H'
def spHas (PT : Addr) : Sp := fun vs H Q _ => ∃ (z : Str) (a : Addr) (ns : List Int), vs = [.str z, .ref a] ∧ z.cps.size ≤ 1000 ∧ isT z = true ∧ H a = some (.tup (ns.map V.int)) ∧ permB ns = true ∧ ns.length ≤ 1000 ∧ Tabs [(PT, qOrd)] H ∧ ∀ H', ExtN H H' → (∀ b, H' b = none → H b = none) → Tabs [(PT, qOrd)] H' → Q (.bl (decide (ordM z = ns))) H'
section
variable {P : Program} {w : World} {K : PySem.W.Frag} {mg : Str → Option Value} {base : Heap}
theorem scText : FnScope ["value", "sign"] ["value"] (defScope sIsText) := ⟨rfl, rfl, rfl, by decide +kernel, rfl, by decide +kernel, by decide +kernel⟩
theorem scCkText : FnScope ["text"] ["text"] (defScope sCkText) := ⟨rfl, rfl, rfl, by decide +kernel, rfl, by decide +kernel, by decide +kernel⟩
theorem scOrderOf : FnScope ["text"] ["text"] (defScope sOrderOf) := ⟨rfl, rfl, rfl, by decide +kernel, rfl, by decide +kernel, by decide +kernel⟩
theorem scHas : FnScope ["text", "order"] ["text", "order"] (defScope sHas) := ⟨rfl, rfl, rfl, by decide +kernel, rfl, by decide +kernel, by decide +kernel⟩
theorem ok_text {f : Addr} {fd : FuncData} (F : Fun K "is_text" "is_text" sIsText f fd) (T : TxtC K mg) : FnOk P w K mg base CX0 1 f fd ["value"] spText := by
  refine F.ok scText (fun vs H Q E h => ?_) (fun cdv A outer s H vs Q E hr h => ?_)
  · obtain ⟨x, rfl, _⟩ := h
    rfl
  · obtain ⟨z, rfl, hz, k⟩ := h
    have nd := scText.nd
    refine ⟨_, (pss_one (ps_ret (pe_and (pe_callB call_isi (by rfl) T.isinstance (by decide +kernel) (pa_cons (pv 0) (pa_cons (pe_bltn (v := .ty "str") rfl T.str (by decide +kernel) rfl) pa_nil))) (pe_one (pe_callB (cr_all rfl) (by rfl) T.all (by decide +kernel) (pa_cons (pe_lc (own := [("sign", 1)]) (g := gName 1) (tt := tYes) rfl nd (pi_str (pv 0)) (blkOk_by (N := ["value", "sign"]) (sc := defScope sIsText) (by decide +kernel)) (fun _ _ _ _ _ => (pg_name (i := 1) nd rfl (Or.inl rfl))) (fun _ _ _ _ _ => pts_nil) (fun _ _ _ _ _ => (pe_cmpR op_in_sign (pv 1) (C8.pe_gc (by rfl) T.letters) (by rfl)))) pa_nil)))))), ?_⟩
    refine ⟨_, rfl, _, _, _, _, true, rfl, .ty _, .base (.str z), kit_ty (by decide +kernel), _, rfl, _, rfl, z, rfl, fun D hD => lc_it (walk_str (z := z)) (fun i H' => Same H H' ∧ H' D = some (.lst (((z.cps.toList.take i).map fun c => decide (c ∈ letS.cps.toList)).map V.bl))) ⟨fun b o e => by rw [upd_ne (ne_of_none e hD)]; exact e, upd_same⟩ (fun _ _ _ _ => trivial) ?_ ?_⟩
    · rintro i y H1 H2 hi ⟨s1, d1⟩ ⟨rfl, c, hc, rfl⟩
      have hc' : z.cps.toList[i]? = some c := by rw [Array.getElem?_toList]; exact hc
      refine ⟨rfl, ?_⟩
      refine ⟨_, rfl, c, _, rfl, rfl, _, d1, ?_, fun b o e => ?_, ?_⟩
      · rw [List.length_map, List.length_map, List.length_take]
        have : sizeLine = 2 ^ 24 := sizeLine_eq
        have hl : z.cps.toList.length = z.cps.size := Array.length_toList
        omega
      · rw [upd_ne (ne_of_none e hD)]
        exact s1 _ _ e
      · rw [upd_same, List.take_succ, hc', List.map_append, List.map_append]
        rfl
    · rintro H1 ⟨s1, d1⟩
      rw [← Array.length_toList, List.take_length] at d1
      refine ⟨D, _, rfl, .of d1, ?_⟩
      have e : ((z.cps.toList.map fun c => decide (c ∈ letS.cps.toList)).all id) = isT z := by
        unfold isT
        rw [List.all_map]
        rfl
      rw [e]
      exact k H1 s1
theorem ok_ckText {f fT : Addr} {fd fdT : FuncData} (F : Fun K "check_text" "check_text" sCkText f fd)
    (GX : FnOk P w K mg base CX0 1 fT fdT ["value"] spText) (gX : mg "is_text" = some (.ref fT)) (kX : PySem.W.keepIn K (.ref fT) = true) (bX : Binds K fdT ["value"] []) :
    FnOk P w K mg base CX0 2 f fd ["text"] spCkText := by
  refine F.ok scCkText (fun vs H Q E h => ?_) (fun cdv A outer s H vs Q E hr h => ?_)
  · obtain ⟨z, rfl, _⟩ := h
    rfl
  · obtain ⟨z, rfl, hz, ht, k⟩ := h
    have hr1 : Room 1 _ := hr
    refine ⟨_, pss_one (ps_if (pt_not (pt_val (pe_call GX hr1 rfl gX kX bX .nil pass0 (pa_cons (pv 0) pa_nil)))) (pss_one ps_never) pss_nil), ?_⟩
    refine ⟨_, rfl, z, rfl, hz, fun H1 s1 => ⟨_, rfl, ?_⟩⟩
    rw [ht]
    exact k H1 s1
theorem ok_orderOf {f cO PT fX : Addr} {fdX : FuncData} {dV kV doc pm ct oc : Value} {an od : Option Addr} {osl : Array (Option Value)} (lk : K.lookup f = some ⟨oc, od, .func (PySem.W.fnOf "order_of" "order_of" (defArgs sOrderOf) (defBody sOrderOf) (defScope sOrderOf) dV kV doc pm an (.ref cO) ct), osl⟩) (hcd : PySem.W.codeIn K (.ref cO) "order_of" = true) (TB : TabB base mg cO PT) (T : TxtC K mg)
    (GX : FnOk P w K mg base CX0 2 fX fdX ["text"] spCkText) (gX : mg "check_text" = some (.ref fX)) (kX : PySem.W.keepIn K (.ref fX) = true) (bX : Binds K fdX ["text"] []) :
    FnOk P w K mg base CX0 3 f (PySem.W.fnOf "order_of" "order_of" (defArgs sOrderOf) (defBody sOrderOf) (defScope sOrderOf) dV kV doc pm an (.ref cO) ct) ["text"] (spOrderOf PT) := by
  refine fn_of lk hcd scOrderOf (fun vs H Q E h => ?_) (fun A outer s H vs Q E hr h => ?_)
  · obtain ⟨z, rfl, _⟩ := h
    rfl
  · obtain ⟨z, rfl, hz, ht, hT, k⟩ := h
    have hr2 : Room 2 _ := hr
    refine ⟨_, PSs.nox (pss_cons (ps_expr (pe_call GX hr2 rfl gX kX bX .nil pass0 (pa_cons (pv 0) pa_nil)))
      (pss_one (ps_ret (pe_tupleOf (by rfl) T.tuple (pe_sortSuf (T := [(PT, qOrd)]) (j := 0) (k := 1) rfl hr2 (by rfl) T.sorted (prg_1 (by rfl) T.range (pe_callB call_len_str (by rfl) T.len (by decide +kernel) (pa_cons (pv 0) pa_nil))) TB rfl List.mem_cons_self (fun p hp _ => by rw [List.mem_singleton.mp hp]; rfl) (keySc_by (by decide +kernel)) rfl (NdefX.ndef_free (sc := defScope sOrderOf) (fr := ["text"]) (by decide +kernel)) (fun _ _ _ _ _ _ => rfl) rfl))))), ?_⟩
    refine ⟨_, rfl, z, rfl, hz, ht, fun H1 s1 => ?_⟩
    have hz1 : sizeLine = 2 ^ 24 := sizeLine_eq
    have hzl : z.length = z.cps.size := rfl
    refine ⟨_, rfl, _, rfl, (by rw [hzl]; omega), _, rfl, z, rfl, rfl, rfl, (by rw [hzl]; exact hz), hT.ext s1, fun p H2 e2 mn T2 hp np => ?_⟩
    refine .inl ⟨p, _, rfl, .of hp, fun q nq => ?_⟩
    refine k q _ (fun b o e n => ?_) (fun b e => ?_) (T2.ext fun b o e => ?_) upd_same
    · rw [upd_ne (ne_of_none (e2 _ _ (s1 _ _ e) n) nq)]
      exact e2 _ _ (s1 _ _ e) n
    · have h2 := mn b (NdefX.upd_none e)
      cases hh : H b with
      | none => rfl
      | some o => rw [s1 _ _ hh] at h2; cases h2
    · rw [upd_ne (ne_of_none e nq)]
      exact e
end
end T21

set_option Elab.async false
set_option linter.all false
set_option maxRecDepth 100000
set_option maxHeartbeats 4000000
namespace T21
open PySem L2 EK LamX
/-- suffixes compared sign by sign, from the k-th on -/
def lessA (cs : List Nat) (i j : Nat) : Nat → Nat → Bool
  | _, 0 => decide (j < i)
  | k, f + 1 => if cs.length ≤ i + k then decide (j < i) else if cs.length ≤ j + k then decide (j < i) else if cs.getD (i + k) 0 = cs.getD (j + k) 0 then lessA cs i j (k + 1) f else decide (cs.getD (i + k) 0 < cs.getD (j + k) 0)
def lessM (z : Str) (i j : Nat) : Bool := lessA z.cps.toList i j 0 z.cps.toList.length
def plF (z : Str) : Nat → List Int
  | 0 => List.replicate (z.cps.toList.length + 1) 0
  | i + 1 => (plF z i).set ((List.range (z.cps.toList.length + 1)).filter fun o => !decide (o = i) && lessM z o i).length (i : Nat)
def ordL (z : Str) : List Int := plF z (z.cps.toList.length + 1)
theorem plF_len (z : Str) : ∀ i, (plF z i).length = z.cps.toList.length + 1
  | 0 => by rw [plF, List.length_replicate]
  | i + 1 => by rw [plF, List.length_set, plF_len z i]
def spLess : Sp := fun vs H Q _ => ∃ (z : Str) (i j : Nat), vs = [.str z, .int i, .int j] ∧ z.cps.toList.length ≤ 1000 ∧ i ≤ 1000 ∧ j ≤ 1000 ∧ Q (.bl (lessM z i j)) H
def spOrder : Sp := fun vs H Q _ => ∃ z : Str, vs = [.str z] ∧ z.cps.toList.length ≤ 900 ∧ ∀ p H', Same H H' → H' p = some (.lst ((ordL z).map V.int)) → Q (.ref p) H'
theorem lt1 (c d : Nat) : decide ((⟨#[c]⟩ : Str).cps.toList < (⟨#[d]⟩ : Str).cps.toList) = decide (c < d) := by
  show decide ([c] < [d]) = _
  by_cases h : c < d
  · rw [decide_eq_true h, decide_eq_true]
    exact List.Lex.rel h
  · rw [decide_eq_false h, decide_eq_false]
    intro z
    cases z with
    | rel q => exact h q
    | cons q => cases q
section
variable {P : Program} {w : World} {K : PySem.W.Frag} {mg : Str → Option Value} {base : Heap}
theorem scLess : FnScope ["_law_text", "_law_one", "_law_other", "_law_k"] ["_law_text", "_law_one", "_law_other"] (defScope sLess) := ⟨rfl, rfl, rfl, by decide +kernel, rfl, by decide +kernel, by decide +kernel⟩
abbrev NO : List Str := ["_law_text", "_law_spots", "_law_places", "_law_one", "_law_lower", "_law_k", "_law_other"]
theorem scOrder : FnScope NO ["_law_text"] (defScope sOrder) := ⟨rfl, rfl, rfl, by decide +kernel, rfl, by decide +kernel, by decide +kernel⟩
theorem ok_less {f : Addr} {fd : FuncData} (F : Fun K "_law_less" "_law_less" sLess f fd) (T : TxtC K mg) : FnOk P w K mg base CX0 1 f fd ["_law_text", "_law_one", "_law_other"] spLess := by
  refine F.ok scLess (fun vs H Q E h => ?_) (fun cdv A outer s H vs Q E hr h => ?_)
  · obtain ⟨z, i, j, rfl, _⟩ := h
    rfl
  · obtain ⟨z, i, j, rfl, hz, hi, hj, q⟩ := h
    have nd := scLess.nd
    have hs : sizeLine = 2 ^ 24 := sizeLine_eq
    have hzl : z.length = z.cps.toList.length := Array.length_toList.symm
    refine ⟨_, (pss_cons (ps_for PassesOwn.never rfl (pi_range1 (by rfl) T.range (pa_cons (pe_callB call_len_str (by rfl) T.len (by decide +kernel) (pa_cons (pv 0) pa_nil)) pa_nil)) (pg_name (i := 3) nd rfl (Or.inl rfl)) (pss_cons (ps_if (PW.pt (pw_or (pt_cmpR op_ge (pe_op op_add (pv 1) (pv 3)) (pe_callB call_len_str (by rfl) T.len (by decide +kernel) (pa_cons (pv 0) pa_nil)) (nomark _)) (pw_or1 (pt_cmpR op_ge (pe_op op_add (pv 2) (pv 3)) (pe_callB call_len_str (by rfl) T.len (by decide +kernel) (pa_cons (pv 0) pa_nil)) (nomark _))))) (pss_one (ps_ret (pe_cmpR op_gt (pv 1) (pv 2) (nomark _)))) pss_nil)
      (pss_one (ps_if (pt_cmpR op_ne (pe_ix ix_str (pv 0) (pe_op op_add (pv 1) (pv 3)) (fun _ _ => rfl)) (pe_ix ix_str (pv 0) (pe_op op_add (pv 2) (pv 3)) (fun _ _ => rfl)) (nomark _)) (pss_one (ps_ret (pe_cmpR op_lt_str (pe_ix ix_str (pv 0) (pe_op op_add (pv 1) (pv 3)) (fun _ _ => rfl)) (pe_ix ix_str (pv 0) (pe_op op_add (pv 2) (pv 3)) (fun _ _ => rfl)) (nomark _)))) pss_nil))))
      (pss_one (ps_ret (pe_cmpR op_gt (pv 1) (pv 2) (nomark _))))), ?_⟩
    refine ⟨_, rfl, _, rfl, (by omega), _, rfl, by omega, by omega, ?_⟩
    have en : ((z.length : Nat) : Int).toNat = z.cps.toList.length := by omega
    rw [en]
    have gt : ∀ b : Bool, b = decide (j < i) → decide (((j : Nat) : Int) < ((i : Nat) : Int)) = b := fun b e => by
      rw [e]
      by_cases h : j < i
      · rw [decide_eq_true h, decide_eq_true (by omega)]
      · rw [decide_eq_false h, decide_eq_false (by omega)]
    refine for_range (lo := 0) (n := z.cps.toList.length) (fun k σ H' => ∃ v3 : Option V, σ = [some (.str z), some (.int i), some (.int j), v3] ∧ H' = H ∧ lessM z i j = lessA z.cps.toList i j k (z.cps.toList.length - k)) ⟨none, rfl, rfl, rfl⟩ ?_ ?_
    · rintro k σ H' hk ⟨v3, rfl, rfl, e⟩
      obtain ⟨fu, hf⟩ : ∃ fu, z.cps.toList.length - k = fu + 1 := ⟨z.cps.toList.length - k - 1, by omega⟩
      rw [hf, lessA] at e
      refine ⟨_, rfl, _, rfl, _, _, rfl, rfl, _, rfl, _, rfl, (by omega), _, _, rfl, rfl, _, rfl, ?_⟩
      by_cases h1 : z.cps.toList.length ≤ i + k
      · rw [if_pos h1] at e
        rw [decide_eq_true (show ((z.length : Nat) : Int) ≤ (i : Int) + ((0 : Int) + (k : Nat)) by omega)]
        refine ⟨_, rfl, _, rfl, _, _, rfl, rfl, ?_⟩
        rw [← gt _ e] at q
        exact q
      · rw [if_neg h1] at e
        rw [decide_eq_false (show ¬ ((z.length : Nat) : Int) ≤ (i : Int) + ((0 : Int) + (k : Nat)) by omega)]
        refine ⟨_, rfl, _, rfl, _, _, rfl, rfl, _, rfl, _, rfl, (by omega), _, _, rfl, rfl, _, rfl, ?_⟩
        by_cases h2 : z.cps.toList.length ≤ j + k
        · rw [if_pos h2] at e
          rw [decide_eq_true (show ((z.length : Nat) : Int) ≤ (j : Int) + ((0 : Int) + (k : Nat)) by omega)]
          refine ⟨_, rfl, _, rfl, _, _, rfl, rfl, ?_⟩
          rw [← gt _ e] at q
          exact q
        · rw [if_neg h2] at e
          rw [decide_eq_false (show ¬ ((z.length : Nat) : Int) ≤ (j : Int) + ((0 : Int) + (k : Nat)) by omega)]
          have at_ : ∀ m : Nat, m + k < z.cps.toList.length → atI z.cps.toList ((m : Int) + ((0 : Int) + (k : Nat))) = some (z.cps.toList.getD (m + k) 0) := fun m hm => by
            rw [show ((m : Int) + ((0 : Int) + (k : Nat))) = ((m + k : Nat) : Int) by omega]
            refine atI_nat ?_
            rw [List.getElem?_eq_getElem hm, List.getD_eq_getElem?_getD, List.getElem?_eq_getElem hm]
            rfl
          have a1 := at_ i (by omega)
          have a2 := at_ j (by omega)
          refine ⟨_, rfl, _, rfl, _, rfl, _, _, rfl, rfl, _, _, _, rfl, rfl, (by omega), a1, _, rfl, _, rfl, _, rfl, _, _, rfl, rfl, _, _, _, rfl, rfl, (by omega), a2, rfl, _, rfl, ?_⟩
          by_cases h3 : z.cps.toList.getD (i + k) 0 = z.cps.toList.getD (j + k) 0
          · rw [if_pos h3] at e
            refine iteNS (by rw [h3]) ⟨_, rfl, rfl, ?_⟩
            rw [e]
            congr 1
            omega
          · rw [if_neg h3] at e
            have hne : ¬ V.str (⟨#[z.cps.toList.getD (i + k) 0]⟩ : Str) = V.str ⟨#[z.cps.toList.getD (j + k) 0]⟩ := fun y => h3 (by injection y with y; injection y with y; simpa using y)
            rw [decide_eq_false hne]
            refine ⟨_, rfl, _, rfl, _, rfl, _, _, rfl, rfl, _, _, _, rfl, rfl, (by omega), a1, _, rfl, _, rfl, _, rfl, _, _, rfl, rfl, _, _, _, rfl, rfl, (by omega), a2, _, _, rfl, rfl, ?_⟩
            rw [e, ← lt1] at q
            exact q
    · rintro σ H' ⟨v3, rfl, rfl, e⟩
      rw [Nat.sub_self, lessA] at e
      refine ⟨_, rfl, _, rfl, _, _, rfl, rfl, ?_⟩
      rw [← gt _ e] at q
      exact q
theorem ok_order {f fL : Addr} {fd fdL : FuncData} (F : Fun K "_law_order" "_law_order" sOrder f fd) (T : TxtC K mg)
    (GL : FnOk P w K mg base CX0 1 fL fdL ["_law_text", "_law_one", "_law_other"] spLess) (gL : mg "_law_less" = some (.ref fL)) (kL : PySem.W.keepIn K (.ref fL) = true) (bL : Binds K fdL ["_law_text", "_law_one", "_law_other"] []) :
    FnOk P w K mg base CX0 2 f fd ["_law_text"] spOrder := by
  refine F.ok scOrder (fun vs H Q E h => ?_) (fun cdv A outer s H vs Q E hr h => ?_)
  · obtain ⟨z, rfl, _⟩ := h
    rfl
  · obtain ⟨z, rfl, hz, q⟩ := h
    have nd := scOrder.nd
    have hr1 : Room 1 _ := hr
    have hs : sizeLine = 2 ^ 24 := sizeLine_eq
    have hzl : z.length = z.cps.toList.length := Array.length_toList.symm
    refine ⟨_, (pss_cons (ps_par (i := 1) (j := 2) (by rfl) nd rfl rfl (by decide) rfl rfl (pa_cons (pe_lc (own := [("_law_k", 5)]) (g := gName 5) (tt := tYes) rfl nd (pi_range1 (by rfl) T.range (pa_cons (pe_op op_add (pe_callB call_len_str (by rfl) T.len (by decide +kernel) (pa_cons (pv 0) pa_nil)) pe_int) pa_nil)) (blkOk_by (N := NO) (sc := defScope sOrder) (by decide +kernel)) (fun _ _ _ _ _ => (pg_name (i := 5) nd rfl (Or.inl rfl))) (fun _ _ _ _ _ => pts_nil) (fun _ _ _ _ _ => (pv 5))) (pa_cons (pe_op op_rep (pe_lst (pa_cons pe_int pa_nil)) (pe_op op_add (pe_callB call_len_str (by rfl) T.len (by decide +kernel) (pa_cons (pv 0) pa_nil)) pe_int)) pa_nil)) (by rfl))
      (pss_cons (ps_for PassesOwn.never rfl (pi_list (pv 1)) (pg_name (i := 3) nd rfl (Or.inr rfl)) (pss_cons (ps_setLc (i := 4) (own := [("_law_other", 6)]) (g := gName 6) rfl nd rfl rfl (sw_true rfl rfl rfl (by decide +kernel)) (pi_list (pv 1)) (blkOk_by (N := NO) (sc := defScope sOrder) (by decide +kernel)) (fun _ _ _ _ _ => (pg_name (i := 6) nd rfl (Or.inl rfl))) (fun _ _ _ _ _ => (pts_one (PW.pt (pw_and (pt_cmpR op_ne (pv 6) (pv 3) (nomark _)) (pw_and1 (pt_val (pe_call GL hr1 rfl gL kL bL .nil pass0 (pa_cons (pv 0) (pa_cons (pv 6) (pa_cons (pv 3) pa_nil)))))))))) (fun _ _ _ _ _ => (pv 6)))
      (pss_one (ps_asg (pv 3) (pg_sub (pv 2) (pe_callB call_len_seq (by rfl) T.len (by decide +kernel) (pa_cons (pv 4) pa_nil)) set_list)))))
      (pss_one (ps_ret (pv 2))))), ?_⟩
    refine ⟨_, rfl, _, rfl, (by omega), _, _, rfl, rfl, _, rfl, by omega, by omega, fun D nD => ?_⟩
    have en : ((z.length : Nat) : Int) + 1 = ((z.cps.toList.length + 1 : Nat) : Int) := by omega
    rw [en, Int.toNat_natCast]
    refine lcM_range (R' := RInt) (n := z.cps.toList.length + 1) (fun _ => true) (fun k => (0 : Int) + (k : Nat)) nD rint_keep (by omega) ?_ ?_
    · intro k H3 C C0 hk s3 c1 _
      exact ⟨rfl, _, rfl, c1 rfl _ _ (fun _ _ e => e) rfl⟩
    intro ys H3 s3 hD hy
    rw [List.filter_eq_self.mpr fun _ _ => rfl] at hy
    have ey := rint_map hy
    rw [ey] at hD
    refine ⟨(by show 1 ≤ sizeLine; decide), fun p0 z0 => ?_⟩
    obtain ⟨H4, e4, S4, A4⟩ := alloc (o := .lst [.int 0]) z0
    rw [e4]
    refine ⟨_, rfl, _, rfl, (by omega), _, _, rfl, rfl, p0, _, _, rfl, rfl, A4, by omega, by omega, by show 1 * _ ≤ _; omega, fun p z1 => ?_⟩
    have er : (List.replicate (((z.length : Nat) : Int) + 1).toNat [V.int 0]).flatten = (plF z 0).map V.int := by
      rw [List.flatten_replicate_singleton, plF, List.map_replicate, show (((z.length : Nat) : Int) + 1).toNat = z.cps.toList.length + 1 by omega]
    rw [er]
    obtain ⟨H5, e5, S5, A5⟩ := alloc (o := .lst ((plF z 0).map V.int)) z1
    rw [e5]
    have np : H p = none := by
      cases hh : H p with
      | none => rfl
      | some o => rw [S4 _ _ (s3 _ _ hh)] at z1; cases z1
    have npD : D ≠ p := fun e => by rw [← e, S4 _ _ hD] at z1; cases z1
    have hD5 := S5 _ _ (S4 _ _ hD)
    have hlen : (((List.range (z.cps.toList.length + 1)).map fun k => (0 : Int) + (k : Nat)).map V.int).length = z.cps.toList.length + 1 := by rw [List.length_map, List.length_map, List.length_range]
    refine ⟨_, _, rfl, ?_⟩
    refine ⟨_, rfl, D, rfl, ⟨_, .of hD5⟩, for_list (K := K) (a := D) (xs := ((List.range (z.cps.toList.length + 1)).map fun k => (0 : Int) + (k : Nat)).map V.int) (fun i σ H' => ∃ v3 v4 : Option V, σ = [some (.str z), some (.ref D), some (.ref p), v3, v4, none, none] ∧ Same H H' ∧ H' D = some (.lst (((List.range (z.cps.toList.length + 1)).map fun k => (0 : Int) + (k : Nat)).map V.int)) ∧ H' p = some (.lst ((plF z i).map V.int))) ⟨none, none, rfl, fun b o e => S5 _ _ (S4 _ _ (s3 _ _ e)), hD5, A5⟩ (fun i σ H' _ ⟨_, _, _, _, h, _⟩ => .of h) ?_ ?_⟩
    · rintro i x σ H6 hi ⟨v3, v4, rfl, s6, hD6, hp6⟩
      have hil : i < z.cps.toList.length + 1 := by
        have := (List.getElem?_eq_some_iff.mp hi).1
        rw [hlen] at this
        exact this
      have ex : x = .int ((0 : Int) + (i : Nat)) := by
        rw [List.getElem?_map, List.getElem?_map, List.getElem?_range hil] at hi
        exact (Option.some.inj hi).symm
      subst ex
      have hall : All2 (RInt H6) (((List.range (z.cps.toList.length + 1)).map fun k => (0 : Int) + (k : Nat)).map V.int) ((List.range (z.cps.toList.length + 1)).map fun k => (0 : Int) + (k : Nat)) := All2.of_map _
      refine ⟨_, rfl, D, rfl, ⟨_, .of hD6⟩, fun D7 nD7 => ?_⟩
      have hnat : All2 (fun (x : V) (o : Nat) => x = V.int ((0 : Int) + (o : Nat))) (((List.range (z.cps.toList.length + 1)).map fun k => (0 : Int) + (k : Nat)).map V.int) (List.range (z.cps.toList.length + 1)) := by
        rw [List.map_map]
        exact All2.of_map _
      refine lcM_list (K := K) (R := fun _ x (o : Nat) => x = V.int ((0 : Int) + (o : Nat))) (R' := RInt) (zs := List.range (z.cps.toList.length + 1)) (fun o => !decide (o = i) && lessM z o i) (fun o => (0 : Int) + (o : Nat)) nD7 (.of hD6) hnat (fun _ _ _ _ _ r => r) rint_keep (by rw [List.length_range]; omega) ?_ ?_
      · rintro j x o H7 C C0 hj s7 rfl c1 c0
        have ho : o < z.cps.toList.length + 1 := List.mem_range.mp (List.mem_of_getElem? hj)
        refine ⟨rfl, _, rfl, _, rfl, rfl, _, rfl, ?_⟩
        by_cases h1 : o = i
        · have hv : V.int ((0 : Int) + (o : Nat)) = V.int ((0 : Int) + (i : Nat)) := by rw [h1]
          rw [decide_eq_true hv]
          exact c0 (by rw [h1, decide_eq_true rfl]; rfl) _ fun _ _ e => e
        · have hv : ¬ V.int ((0 : Int) + (o : Nat)) = V.int ((0 : Int) + (i : Nat)) := fun y => h1 (by injection y with y; omega)
          rw [decide_eq_false hv]
          refine ⟨_, rfl, _, rfl, _, rfl, z, o, i, (by rw [Int.zero_add, Int.zero_add]; rfl), by omega, by omega, by omega, _, rfl, ?_⟩
          by_cases h2 : lessM z o i = true
          · rw [h2]
            exact ⟨_, rfl, c1 (by rw [decide_eq_false h1, h2]; rfl) _ _ (fun _ _ e => e) rfl⟩
          · have h3 : lessM z o i = false := by simpa using h2
            rw [h3]
            exact c0 (by rw [decide_eq_false h1, h3]; rfl) _ fun _ _ e => e
      intro ls H7 s7 hD7 hls
      have hll := hls.length
      rw [List.length_map] at hll
      have hlt : ((List.range (z.cps.toList.length + 1)).filter fun o => !decide (o = i) && lessM z o i).length < z.cps.toList.length + 1 := by
        have h := List.length_filter_lt_length_iff_exists (l := List.range (z.cps.toList.length + 1)) (p := fun o => !decide (o = i) && lessM z o i) |>.mpr ⟨i, List.mem_range.mpr hil, by rw [decide_eq_true rfl]; simp⟩
        rw [List.length_range] at h
        exact h
      have hp7 := s7 _ _ hp6
      have hD7b := s7 _ _ hD6
      refine ⟨_, rfl, _, rfl, _, rfl, D7, _, rfl, .inl (.of hD7), p, _, _, _, rfl, rfl, hp7, ixN_int (by omega) (by rw [List.length_map, plF_len, hll]; omega), ⟨_, _, rfl, fun b o e => ?_, ?_, ?_⟩⟩
      · rw [upd_ne (ne_of_none e np)]
        exact s7 _ _ (s6 _ _ e)
      · rw [upd_ne npD]
        exact hD7b
      · rw [upd_same, plF, List.map_set, hll, Int.toNat_natCast, Int.zero_add]
    · rintro σ H6 ⟨v3, v4, rfl, s6, hD6, hp6⟩
      rw [hlen] at hp6
      exact ⟨_, rfl, q p H6 s6 hp6⟩
end
end T21

set_option Elab.async false
set_option linter.all false
set_option maxRecDepth 100000
set_option maxHeartbeats 4000000
namespace T21
open PySem L2 EK LamX
/-- one with the place put in at k -/
def putIn (one : List Int) (p k : Nat) : List Int := (one.take k ++ [(0 : Int) + (p : Nat)]) ++ one.drop k
def allF : Nat → List (List Int)
  | 0 => [[]]
  | p + 1 => (allF p).flatMap fun one => (List.range (p + 1)).map (putIn one p)
def geAt (t : Str) (ns : List Int) (k : Nat) : Bool := !decide (t.cps.toList.getD (ns.getD k 0).toNat 0 < t.cps.toList.getD (ns.getD (k + 1) 0).toNat 0)
def grownM (ts : List Str) (ns : List Int) : List Int := ((List.range (ns.length - 1)).filter fun k => decide ((ts.filter fun t => geAt t ns k) = [])).map fun k => (0 : Int) + (k : Nat)
def txF (L : Str) : Nat → List Str
  | 0 => [""]
  | k + 1 => (txF L k).flatMap fun t => L.cps.toList.map fun c => t ++ ⟨#[c]⟩
def lets (i : Nat) : Str := if i = 0 then "a" else if i = 1 then "ab" else "abc"
set_option maxRecDepth 1000000 in
theorem fA : ∀ n, n < 7 → (decide ((allF n).length ≤ 720) && (allF n).all fun ns => permB ns && decide (ns.length = n)) = true := by decide +kernel
set_option maxRecDepth 1000000 in
theorem fT : ∀ i, i < 3 → ∀ n, n < 6 → (decide ((txF (lets i) n).length ≤ 243) && (txF (lets i) n).all fun t => decide (t.cps.toList.length = n) && t.cps.toList.all fun c => decide (c = 97 ∨ c = 98 ∨ c = 99)) = true := by decide +kernel
structure OkO (n : Nat) (ns : List Int) : Prop where
  perm : permB ns = true
  len : ns.length = n
theorem okO {n : Nat} (hn : n ≤ 6) {ns : List Int} (h : ns ∈ allF n) : OkO n ns := by
  have h1 := fA n (by omega)
  rw [Bool.and_eq_true] at h1
  have h3 := List.all_eq_true.mp h1.2 ns h
  rw [Bool.and_eq_true] at h3
  exact ⟨h3.1, of_decide_eq_true h3.2⟩
theorem allF_big {p : Nat} (h : p ≤ 6) : (allF p).length ≤ 720 := by
  have h1 := fA p (by omega)
  rw [Bool.and_eq_true] at h1
  exact of_decide_eq_true h1.1
theorem tx_big {i n : Nat} (hi : i < 3) (hn : n ≤ 5) : (txF (lets i) n).length ≤ 243 := by
  have h1 := fT i hi n (by omega)
  rw [Bool.and_eq_true] at h1
  exact of_decide_eq_true h1.1
structure OkT (n : Nat) (t : Str) : Prop where
  len : t.cps.toList.length = n
  abc : ∀ c ∈ t.cps.toList, c = 97 ∨ c = 98 ∨ c = 99
theorem okT {i n : Nat} (hi : i < 3) (hn : n ≤ 5) {t : Str} (h : t ∈ txF (lets i) n) : OkT n t := by
  have h1 := fT i hi n (by omega)
  rw [Bool.and_eq_true] at h1
  have h3 := List.all_eq_true.mp h1.2 t h
  rw [Bool.and_eq_true] at h3
  exact ⟨of_decide_eq_true h3.1, fun c hc => of_decide_eq_true (List.all_eq_true.mp h3.2 c hc)⟩
theorem OkT.isT {n : Nat} {t : Str} (h : OkT n t) : isT t = true := by
  unfold T21.isT
  rw [List.all_eq_true]
  intro c hc
  rcases h.abc c hc with rfl | rfl | rfl <;> decide
theorem cut_take (ns : List Int) (j : Nat) : cutV (ns.map V.int) none (some ((0 : Int) + (j : Nat))) = (ns.take j).map V.int := by
  unfold cutV HT.sIx
  show List.take ((if (0 : Int) + (j : Nat) < 0 then _ else min ((0 : Int) + (j : Nat)).toNat (ns.map V.int).length) - 0) (List.drop 0 (ns.map V.int)) = _
  rw [if_neg (by omega), List.drop_zero, Nat.sub_zero, show ((0 : Int) + (j : Nat)).toNat = j by omega, List.map_take, List.length_map]
  by_cases h : j ≤ ns.length
  · rw [Nat.min_eq_left h]
  · rw [Nat.min_eq_right (by omega), List.take_of_length_le (by rw [List.length_map]; omega), List.take_of_length_le (by rw [List.length_map]; omega)]
theorem cut_drop (ns : List Int) (j : Nat) (k : Int) (hk : k = (j : Int)) : cutV (ns.map V.int) (some k) none = (ns.drop j).map V.int := by
  subst hk
  unfold cutV HT.sIx
  show List.take ((ns.map V.int).length - (if ((j : Nat) : Int) < 0 then _ else min ((j : Nat) : Int).toNat (ns.map V.int).length)) (List.drop (if ((j : Nat) : Int) < 0 then _ else min ((j : Nat) : Int).toNat (ns.map V.int).length) (ns.map V.int)) = _
  rw [if_neg (by omega), show (((j : Nat) : Int)).toNat = j by omega, List.map_drop, List.length_map]
  by_cases h : j ≤ ns.length
  · rw [Nat.min_eq_left h, List.take_of_length_le (by rw [List.length_drop, List.length_map]; exact Nat.le_refl _)]
  · rw [Nat.min_eq_right (by omega), Nat.sub_self, List.take_zero, List.drop_of_length_le (by rw [List.length_map]; omega)]
def spAll : Sp := fun vs H Q _ => ∃ n : Nat, vs = [.int n] ∧ n ≤ 6 ∧ ∀ p ys H', Same H H' → H' p = some (.lst ys) → All2 (RTup H') ys (allF n) → Q (.ref p) H'
section
variable {P : Program} {w : World} {K : PySem.W.Frag} {mg : Str → Option Value} {base : Heap}
theorem scAll : FnScope ["_law_size", "_law_found", "_law_place", "_law_longer", "_law_one", "_law_k"] ["_law_size"] (defScope sAll) := ⟨rfl, rfl, rfl, by decide +kernel, rfl, by decide +kernel, by decide +kernel⟩
theorem ok_all {f : Addr} {fd : FuncData} (F : Fun K "_law_all_orders" "_law_all_orders" sAll f fd) (T : TxtC K mg) : FnOk P w K mg base CX0 1 f fd ["_law_size"] spAll := by
  refine F.ok scAll (fun vs H Q E h => ?_) (fun cdv A outer s H vs Q E hr h => ?_)
  · obtain ⟨n, rfl, _⟩ := h
    rfl
  · obtain ⟨n, rfl, hn, k⟩ := h
    have nd := scAll.nd
    have hz : sizeLine = 2 ^ 24 := sizeLine_eq
    refine ⟨_, (pss_cons (ps_set (i := 1) nd rfl (Or.inl rfl) (pe_lst (pa_cons (pe_tup pa_nil) pa_nil)))
      (pss_cons (ps_for PassesOwn.never rfl (pi_range1 (by rfl) T.range (pa_cons (pv 0) pa_nil)) (pg_name (i := 2) nd rfl (Or.inr rfl)) (pss_cons (ps_set (i := 3) nd rfl (Or.inl rfl) (pe_lst pa_nil))
      (pss_cons (ps_for PassesOwn.never rfl (pi_list (pv 1)) (pg_name (i := 4) nd rfl (Or.inr rfl)) (pss_one (ps_set (i := 3) nd rfl (Or.inl rfl) (pe_op op_cat (pv 3) (pe_lc (own := [("_law_k", 5)]) (g := gName 5) (tt := tYes) rfl nd (pi_range1 (by rfl) T.range (pa_cons (pe_op op_add (pv 2) pe_int) pa_nil)) (blkOk_by (N := ["_law_size", "_law_found", "_law_place", "_law_longer", "_law_one", "_law_k"]) (sc := defScope sAll) (by decide +kernel)) (fun _ _ _ _ _ => (pg_name (i := 5) nd rfl (Or.inl rfl))) (fun _ _ _ _ _ => pts_nil) (fun _ _ _ _ _ => (pe_op (r := rCatA K) op_catA (pe_op (r := rCatA K) op_catA (pe_slice (r := rSlA K) sl_tupA (pv 4) po_none (po_some (pv 5))) (pe_tup (pa_cons (pv 2) pa_nil))) (pe_slice (r := rSlA K) sl_tupA (pv 4) (po_some (pv 5)) po_none))))))))
      (pss_one (ps_set (i := 1) nd rfl (Or.inl rfl) (pv 3))))))
      (pss_one (ps_ret (pv 1))))), ?_⟩
    refine ⟨(by show 0 ≤ sizeLine; decide), fun p0 z0 => ?_⟩
    obtain ⟨H1, e1, S1, A1⟩ := alloc (o := .tup []) z0
    rw [e1]
    refine ⟨(by show 1 ≤ sizeLine; decide), fun p1 z1 => ?_⟩
    obtain ⟨H2, e2, S2, A2⟩ := alloc (o := .lst [.ref p0]) z1
    rw [e2]
    refine ⟨_, rfl, _, rfl, by omega, by omega, ?_⟩
    have en : ((n : Int)).toNat = n := by omega
    rw [en]
    refine for_range (lo := 0) (n := n) (fun i σ H' => ∃ (p : Addr) (ys : List V) (v2 v3 v4 v5 : Option V), σ = [some (.int n), some (.ref p), v2, v3, v4, v5] ∧ Same H H' ∧ H' p = some (.lst ys) ∧ All2 (RTup H') ys (allF i)) ⟨p1, _, none, none, none, none, rfl, S1.trans S2, A2, .cons ⟨p0, rfl, S2 _ _ A1⟩ .nil⟩ ?_ ?_
    · rintro i σ H3 hi ⟨p, ys, v2, v3, v4, v5, rfl, s3, hp, hy⟩
      refine ⟨(by show 0 ≤ sizeLine; decide), fun q z4 => ?_⟩
      obtain ⟨H4, e4, S4, A4⟩ := alloc (o := .lst []) z4
      rw [e4]
      have hly := hy.length
      have hbig := allF_big (p := i) (by omega)
      have hbig2 := allF_big (p := i + 1) (by omega)
      have pre : ∀ j : Nat, (((allF i).take j).flatMap fun one => (List.range (i + 1)).map (putIn one i)).length ≤ 720 := fun j => by
        refine Nat.le_trans ?_ hbig2
        show _ ≤ ((allF i).flatMap fun one => (List.range (i + 1)).map (putIn one i)).length
        rw [← List.take_append_drop j (allF i), List.flatMap_append, List.length_append, List.take_append_drop]
        omega
      refine ⟨_, rfl, p, rfl, ⟨ys, .of (S4 _ _ hp)⟩, for_list (K := K) (a := p) (xs := ys) (fun j σ H' => ∃ (q : Addr) (zs : List V) (v4 v5 : Option V), σ = [some (.int n), some (.ref p), some (.int ((0 : Int) + (i : Nat))), some (.ref q), v4, v5] ∧ Same H3 H' ∧ H' q = some (.lst zs) ∧ All2 (RTup H') zs (((allF i).take j).flatMap fun one => (List.range (i + 1)).map (putIn one i))) ⟨q, [], v4, v5, rfl, S4, A4, .nil⟩ (fun j σ H' _ ⟨_, _, _, _, _, s, _⟩ => .of (s _ _ hp)) ?_ ?_⟩
      · rintro j x σ H5 hj ⟨q, zs, v4, v5, rfl, s5, hq, hzs⟩
        obtain ⟨one, hone, r⟩ := hy.get hj
        obtain ⟨po, rfl, hpo⟩ := r
        have hpo5 := s5 _ _ hpo
        have hlo : one.length = i := (okO (by omega) (List.mem_of_getElem? hone)).len
        refine ⟨_, rfl, _, rfl, _, _, rfl, rfl, _, rfl, by omega, by omega, fun D nD => ?_⟩
        have en2 : ((0 : Int) + (i : Nat) + 1).toNat = i + 1 := by omega
        rw [en2]
        refine lcM_range (R' := RTup) (n := i + 1) (fun _ => true) (putIn one i) nD rtup_keep (by omega) ?_ ?_
        · intro kk H6 C C0 hkk s6 c1 _
          refine ⟨rfl, _, rfl, _, rfl, _, rfl, ?_⟩
          show rSlA K (V.ref po) none (some ((0 : Int) + (kk : Nat))) H6 _
          refine slA_ok (s6 _ _ hpo5) fun t1 H7 s7 A7 => ?_
          rw [cut_take] at A7
          refine ⟨_, rfl, (by show 1 ≤ sizeLine; decide), fun t2 zt2 => ?_⟩
          obtain ⟨H8, e8, S8, A8⟩ := alloc (o := .tup [.int ((0 : Int) + (i : Nat))]) zt2
          rw [e8]
          refine catA_ok (S8 _ _ A7) A8 (by rw [List.length_map, List.length_take]; show _ + 1 ≤ _; omega) fun t3 H9 s9 A9 => ?_
          refine ⟨_, rfl, _, rfl, _, rfl, ?_⟩
          dsimp only [tNoPart]
          show rSlA K (V.ref po) (some ((0 : Int) + (kk : Nat))) none H9 _
          refine slA_ok (s9 _ _ (S8 _ _ (s7 _ _ (s6 _ _ hpo5)))) fun t4 H10 s10 A10 => ?_
          rw [cut_drop one kk _ (by omega)] at A10
          refine catA_ok (s10 _ _ A9) A10 (by rw [List.length_append, List.length_map, List.length_map, List.length_take, List.length_drop]; show _ + 1 + _ ≤ _; omega) fun t5 H11 s11 A11 => ?_
          refine c1 rfl _ _ (fun b o e => s11 _ _ (s10 _ _ (s9 _ _ (S8 _ _ (s7 _ _ e))))) ⟨t5, rfl, ?_⟩
          rw [A11]
          unfold putIn
          rw [List.map_append, List.map_append]
          rfl
        · intro ws H6 s6 hD hws
          rw [List.filter_eq_self.mpr fun _ _ => rfl] at hws
          have hlz := hzs.length
          have hlw := hws.length
          rw [List.length_map, List.length_range] at hlw
          have hpj := pre j
          refine ⟨q, D, zs, ws, rfl, rfl, s6 _ _ hq, hD, by omega, fun q2 nq2 => ?_⟩
          obtain ⟨H7, e7, S7, A7⟩ := alloc (o := .lst (zs ++ ws)) nq2
          rw [e7]
          refine ⟨q2, _, some (.ref po), v5, rfl, fun b o e => S7 _ _ (s6 _ _ (s5 _ _ e)), A7, ?_⟩
          rw [List.take_succ, hone, List.flatMap_append]
          refine (hzs.mono fun x z _ r => rtup_same _ _ _ _ (fun b o e => S7 _ _ (s6 _ _ e)) r).append ?_
          show All2 _ ws ([one].flatMap _)
          rw [List.flatMap_singleton]
          exact hws.mono fun x z _ r => rtup_same _ _ _ _ S7 r
      · rintro σ H5 ⟨q, zs, v4, v5, rfl, s5, hq, hzs⟩
        rw [hly, List.take_length] at hzs
        exact ⟨_, rfl, q, zs, _, _, _, _, rfl, s3.trans s5, hq, hzs⟩
    · rintro σ H3 ⟨p, ys, v2, v3, v4, v5, rfl, s3, hp, hy⟩
      exact ⟨_, rfl, k p ys H3 s3 hp hy⟩
end
end T21

set_option Elab.async false
set_option linter.all false
set_option maxRecDepth 100000
set_option maxHeartbeats 4000000
namespace T21
open PySem L2 EK LamX
def spTexts : Sp := fun vs H Q _ => ∃ i n : Nat, vs = [.int n, .str (lets i)] ∧ i < 3 ∧ n ≤ 5 ∧ ∀ p H', Same H H' → H' p = some (.lst ((txF (lets i) n).map V.str)) → Q (.ref p) H'
abbrev NT : List Str := ["_law_size", "_law_letters", "_law_found", "_law_turn", "_law_longer", "_law_text", "_law_sign"]
theorem tx_take (L : Str) (n j : Nat) : (((txF L n).take j).flatMap fun t => L.cps.toList.map fun c => t ++ (⟨#[c]⟩ : Str)).length ≤ (txF L (n + 1)).length := by
  show _ ≤ ((txF L n).flatMap fun t => L.cps.toList.map fun c => t ++ (⟨#[c]⟩ : Str)).length
  rw [← List.take_append_drop j (txF L n), List.flatMap_append, List.length_append, List.take_append_drop]
  omega
theorem lets_len (i : Nat) : (lets i).cps.size ≤ 3 := by
  unfold lets
  split
  · decide
  · split <;> decide
section
variable {P : Program} {w : World} {K : PySem.W.Frag} {mg : Str → Option Value} {base : Heap}
theorem scTexts : FnScope NT ["_law_size", "_law_letters"] (defScope sTexts) := ⟨rfl, rfl, rfl, by decide +kernel, rfl, by decide +kernel, by decide +kernel⟩
theorem ok_texts {f : Addr} {fd : FuncData} (F : Fun K "_law_all_texts" "_law_all_texts" sTexts f fd) (T : TxtC K mg) : FnOk P w K mg base CX0 1 f fd ["_law_size", "_law_letters"] spTexts := by
  refine F.ok scTexts (fun vs H Q E h => ?_) (fun cdv A outer s H vs Q E hr h => ?_)
  · obtain ⟨i, n, rfl, _⟩ := h
    rfl
  · obtain ⟨li, n, rfl, hli, hn, k⟩ := h
    have nd := scTexts.nd
    have hz : sizeLine = 2 ^ 24 := sizeLine_eq
    refine ⟨_, (pss_cons (ps_set (i := 2) nd rfl (Or.inl rfl) (pe_lst (pa_cons pe_str pa_nil)))
      (pss_cons (ps_for PassesOwn.never rfl (pi_range1 (by rfl) T.range (pa_cons (pv 0) pa_nil)) (pg_name (i := 3) nd rfl (Or.inl rfl)) (pss_cons (ps_set (i := 4) nd rfl (Or.inl rfl) (pe_lst pa_nil))
      (pss_cons (ps_for PassesOwn.never rfl (pi_list (pv 2)) (pg_name (i := 5) nd rfl (Or.inr rfl)) (pss_one (ps_set (i := 4) nd rfl (Or.inl rfl) (pe_op op_cat (pv 4) (pe_lc (own := [("_law_sign", 6)]) (g := gName 6) (tt := tYes) rfl nd (pi_str (pv 1)) (blkOk_by (N := NT) (sc := defScope sTexts) (by decide +kernel)) (fun _ _ _ _ _ => (pg_name (i := 6) nd rfl (Or.inl rfl))) (fun _ _ _ _ _ => pts_nil) (fun _ _ _ _ _ => (pe_op op_add_str (pv 5) (pv 6))))))))
      (pss_one (ps_set (i := 2) nd rfl (Or.inl rfl) (pv 4))))))
      (pss_one (ps_ret (pv 2))))), ?_⟩
    refine ⟨(by show 1 ≤ sizeLine; decide), fun p1 z1 => ?_⟩
    obtain ⟨H2, e2, S2, A2⟩ := alloc (o := .lst [V.str ""]) z1
    rw [e2]
    refine ⟨_, rfl, _, rfl, by omega, by omega, ?_⟩
    have en : ((n : Int)).toNat = n := by omega
    rw [en]
    refine for_range (lo := 0) (n := n) (fun i σ H' => ∃ (p : Addr) (v3 v4 v5 : Option V), σ = [some (.int n), some (.str (lets li)), some (.ref p), v3, v4, v5, none] ∧ Same H H' ∧ H' p = some (.lst ((txF (lets li) i).map V.str))) ⟨p1, none, none, none, rfl, S2, A2⟩ ?_ ?_
    · rintro i σ H3 hi ⟨p, v3, v4, v5, rfl, s3, hp⟩
      refine ⟨(by show 0 ≤ sizeLine; decide), fun q z4 => ?_⟩
      obtain ⟨H4, e4, S4, A4⟩ := alloc (o := .lst []) z4
      rw [e4]
      have hbig := tx_big (n := i) hli (by omega)
      have hbig2 := tx_big (n := i + 1) hli (by omega)
      have hle := lets_len li
      refine ⟨_, rfl, p, rfl, ⟨_, .of (S4 _ _ hp)⟩, for_list (K := K) (a := p) (xs := (txF (lets li) i).map V.str) (fun j σ H' => ∃ (q : Addr) (v5 : Option V), σ = [some (.int n), some (.str (lets li)), some (.ref p), some (.int ((0 : Int) + (i : Nat))), some (.ref q), v5, none] ∧ Same H3 H' ∧ H' q = some (.lst ((((txF (lets li) i).take j).flatMap fun t => (lets li).cps.toList.map fun c => t ++ (⟨#[c]⟩ : Str)).map V.str))) ⟨q, v5, rfl, S4, A4⟩ (fun j σ H' _ ⟨_, _, _, s, _⟩ => .of (s _ _ hp)) ?_ ?_⟩
      · rintro j x σ H5 hj ⟨q, v5, rfl, s5, hq⟩
        rw [List.getElem?_map] at hj
        obtain ⟨t, ht, rfl⟩ : ∃ t, (txF (lets li) i)[j]? = some t ∧ V.str t = x := by
          cases h : (txF (lets li) i)[j]? with
          | none => rw [h] at hj; cases hj
          | some t => rw [h] at hj; exact ⟨t, rfl, Option.some.inj hj⟩
        have okt := okT hli (by omega) (List.mem_of_getElem? ht)
        have htl : t.length = i := by rw [← okt.len]; exact Array.length_toList.symm
        have hpre := tx_take (lets li) i j
        refine ⟨_, rfl, _, rfl, lets li, rfl, fun D hD => lc_it (walk_str (z := lets li)) (fun k H' => Same H5 H' ∧ H' D = some (.lst ((((lets li).cps.toList.take k).map fun c => t ++ (⟨#[c]⟩ : Str)).map V.str))) ⟨fun b o e => by rw [upd_ne (ne_of_none e hD)]; exact e, upd_same⟩ (fun _ _ _ _ => trivial) ?_ ?_⟩
        · rintro kk y H6 H7 hkk ⟨s6, d6⟩ ⟨rfl, c, hc, rfl⟩
          have hc' : (lets li).cps.toList[kk]? = some c := by rw [Array.getElem?_toList]; exact hc
          refine ⟨rfl, ?_⟩
          refine ⟨_, rfl, _, rfl, t, ⟨#[c]⟩, rfl, rfl, (by show t.length + 1 ≤ sizeLine; omega), _, d6, ?_, fun b o e => ?_, ?_⟩
          · rw [List.length_map, List.length_map, List.length_take]
            have hl : (lets li).cps.toList.length = (lets li).cps.size := Array.length_toList
            omega
          · rw [upd_ne (ne_of_none e hD)]
            exact s6 _ _ e
          · rw [upd_same, List.take_succ, hc', List.map_append, List.map_append]
            rfl
        · rintro H6 ⟨s6, d6⟩
          rw [← Array.length_toList, List.take_length] at d6
          have hll : ((lets li).cps.toList.map fun c => t ++ (⟨#[c]⟩ : Str)).length ≤ 3 := by
            rw [List.length_map, Array.length_toList]
            exact hle
          refine ⟨q, D, _, _, rfl, rfl, s6 _ _ hq, d6, by rw [List.length_map, List.length_map]; omega, fun q2 nq2 => ?_⟩
          rw [← List.map_append]
          obtain ⟨H7, e7, S7, A7⟩ := alloc (o := .lst (((((txF (lets li) i).take j).flatMap fun t => (lets li).cps.toList.map fun c => t ++ (⟨#[c]⟩ : Str)) ++ (lets li).cps.toList.map fun c => t ++ (⟨#[c]⟩ : Str)).map V.str)) nq2
          rw [e7]
          refine ⟨q2, some (.str t), rfl, fun b o e => S7 _ _ (s6 _ _ (s5 _ _ e)), ?_⟩
          rw [A7, List.take_succ, ht, List.flatMap_append]
          simp only [Option.toList_some, List.flatMap_cons, List.flatMap_nil, List.append_nil]
      · rintro σ H5 ⟨q, v5, rfl, s5, hq⟩
        rw [List.length_map, List.take_length] at hq
        exact ⟨_, rfl, q, _, _, _, rfl, s3.trans s5, hq⟩
    · rintro σ H3 ⟨p, v3, v4, v5, rfl, s3, hp⟩
      exact ⟨_, rfl, k p H3 s3 hp⟩
end
end T21

set_option Elab.async false
set_option linter.all false
set_option maxRecDepth 100000
set_option maxHeartbeats 4000000
namespace T21
open PySem L2 EK LamX
def spGrown : Sp := fun vs H Q _ => ∃ (a b : Addr) (ts : List Str) (ns : List Int), vs = [.ref a, .ref b] ∧ H a = some (.lst (ts.map V.str)) ∧ H b = some (.tup (ns.map V.int)) ∧ ts.length ≤ 243 ∧ ns.length ≤ 1000 ∧ permB ns = true ∧ (∀ t ∈ ts, t.cps.toList.length = ns.length) ∧ ∀ p H', Same H H' → H' p = some (.lst ((grownM ts ns).map V.int)) → Q (.ref p) H'
abbrev NG : List Str := ["_law_texts", "_law_order_here", "_law_steps", "_law_k", "_law_text"]
def scG : Scope := { kind := .function, names := [(".0", .local), ("_law_k", .cell), ("_law_order_here", .cell), ("_law_texts", .cell)], isGenerator := false, isCoroutine := false }
theorem ind_int (ns : List Int) (h : permB ns = true) (k : Nat) (hk : k < ns.length) : atI (ns.map V.int) ((k : Nat) : Int) = some (.int (ns.getD k 0)) ∧ 0 ≤ ns.getD k 0 ∧ ns.getD k 0 < ns.length := by
  have e : ns[k]? = some (ns.getD k 0) := by
    rw [List.getD_eq_getElem?_getD, List.getElem?_eq_getElem hk]
    rfl
  refine ⟨atI_nat (by rw [List.getElem?_map, e]; rfl), ?_⟩
  exact perm_rng h _ (List.mem_of_getElem? e)
theorem at_sign (t : Str) (n : Int) (m : Nat) (h : t.cps.toList.length = m) (h0 : 0 ≤ n) (h1 : n < m) : atI t.cps.toList n = some (t.cps.toList.getD n.toNat 0) := by
  rw [show n = ((n.toNat : Nat) : Int) by omega]
  refine atI_nat ?_
  rw [Int.toNat_natCast, List.getD_eq_getElem?_getD, List.getElem?_eq_getElem (by omega)]
  rfl
section
variable {P : Program} {w : World} {K : PySem.W.Frag} {mg : Str → Option Value} {base : Heap}
theorem scGrown : FnScope NG ["_law_texts", "_law_order_here"] (defScope sGrown) := ⟨rfl, rfl, rfl, by decide +kernel, rfl, by decide +kernel, by decide +kernel⟩
theorem ok_grown {f : Addr} {fd : FuncData} (F : Fun K "_law_grown" "_law_grown" sGrown f fd) (T : TxtC K mg) : FnOk P w K mg base CX0 1 f fd ["_law_texts", "_law_order_here"] spGrown := by
  refine F.ok scGrown (fun vs H Q E h => ?_) (fun cdv A outer s H vs Q E hr h => ?_)
  · obtain ⟨a, b, ts, ns, rfl, _⟩ := h
    rfl
  · obtain ⟨a, b, ts, ns, rfl, ha, hb, hts, hns, hperm, hlen, k⟩ := h
    have nd := scGrown.nd
    have hz : sizeLine = 2 ^ 24 := sizeLine_eq
    have hu : (A.deeper (PyProof.Rows.envOfC "_law_grown" (defScope sGrown) s.heap.objs.size f cdv)).units + 64 < cLine := hr.units
    refine ⟨_, (pss_cons (ps_setLc (i := 2) (own := [("_law_k", 3)]) (g := gName 3) (tt := tYes) rfl nd rfl rfl (sw_true rfl rfl rfl (by decide +kernel)) (pi_range1 (by rfl) T.range (pa_cons (pe_op op_sub (pe_callB call_len_seq (by rfl) T.len (by decide +kernel) (pa_cons (pv 1) pa_nil)) pe_int) pa_nil)) (blkOk_by (N := NG) (sc := defScope sGrown) (by decide +kernel)) (fun _ _ _ _ _ => (pg_name (i := 3) nd rfl (Or.inl rfl))) (fun _ _ _ _ _ => pts_nil) (fun _ _ _ _ _ => (pv 3)))
      (pss_one (ps_ret (pe_lc (own := [("_law_k", 3)]) (g := gName 3) (te := tVar 3)
        (tt := tTest (tOp (rEqD K) (tLc (iList K (tVar 0)) (gName 4) (tTest (tOp (fun x y H Q => ∃ i j, x = .str i ∧ y = .str j ∧ Q (.bl (!decide (i.cps.toList < j.cps.toList))) H) (tOp rIxS (tVar 4) (tOp (rIxT K) (tVar 1) (tVar 3))) (tOp rIxS (tVar 4) (tOp (rIxT K) (tVar 1) (tOp (rI0 fun i j => .int (i + j)) (tVar 3) (tC (.int 1))))))) (tC (.int 1)) [4]) (tLst tNil)))
        rfl nd (pi_list (pv 2)) (blkOk_by (N := NG) (sc := defScope sGrown) (by decide +kernel)) (fun _ _ _ _ _ => (pg_name (i := 3) nd rfl (Or.inr rfl))) (fun _ _ _ _ _ => (pts_one (pt_cmpR (op_eqD hu) (pe_lc (own := [("_law_text", 4)]) (g := gName 4) rfl nd (pi_list (X := Cx.blk _ _ _ _ _ _) (pv 0)) (blkOk_by (N := NG) (sc := scG) (by decide +kernel)) (fun _ _ _ _ _ => (pg_name (i := 4) nd rfl (Or.inl rfl))) (fun _ _ _ _ _ => (pts_one (pt_cmpR op_ge_str (pe_ix ix_str (pv 4) (pe_ix ix_tup (pv 1) (pv 3) (fun _ _ => rfl)) (fun _ _ => rfl)) (pe_ix ix_str (pv 4) (pe_ix ix_tup (pv 1) (pe_op op_add (pv 3) pe_int) (fun _ _ => rfl)) (fun _ _ => rfl)) (nomark _)))) (fun _ _ _ _ _ => pe_int)) (pe_lst pa_nil) (nomark _)))) (fun _ _ _ _ _ => (pv 3)))))), ?_⟩
    refine ⟨_, rfl, b, _, rfl, .inr (.of hb), _, _, rfl, rfl, _, rfl, by rw [List.length_map]; omega, by rw [List.length_map]; omega, fun D nD => ?_⟩
    have en : (((ns.map V.int).length : Int) - 1).toNat = ns.length - 1 := by rw [List.length_map]; omega
    rw [en]
    refine lcM_range (R' := RInt) (n := ns.length - 1) (fun _ => true) (fun k => (0 : Int) + (k : Nat)) nD rint_keep (by omega) ?_ ?_
    · intro k H3 C C0 hk s3 c1 _
      exact ⟨rfl, _, rfl, c1 rfl _ _ (fun _ _ e => e) rfl⟩
    intro ys H3 s3 hD hy
    rw [List.filter_eq_self.mpr fun _ _ => rfl] at hy
    have ey := rint_map hy
    rw [ey] at hD
    have hnat : All2 (fun (x : V) (o : Nat) => x = V.int ((0 : Int) + (o : Nat))) (((List.range (ns.length - 1)).map fun k => (0 : Int) + (k : Nat)).map V.int) (List.range (ns.length - 1)) := by
      rw [List.map_map]
      exact All2.of_map _
    refine ⟨_, rfl, D, rfl, ⟨_, .of hD⟩, fun D4 nD4 => ?_⟩
    refine lcM_list (K := K) (R := fun _ x (o : Nat) => x = V.int ((0 : Int) + (o : Nat))) (R' := RInt) (zs := List.range (ns.length - 1)) (fun k => decide ((ts.filter fun t => geAt t ns k) = [])) (fun o => (0 : Int) + (o : Nat)) nD4 (.of hD) hnat (fun _ _ _ _ _ r => r) rint_keep (by rw [List.length_range]; omega) ?_ ?_
    · rintro j x kk H5 C C0 hj s5 rfl c1 c0
      have hk : kk < ns.length - 1 := List.mem_range.mp (List.mem_of_getElem? hj)
      have ha5 := s5 _ _ (s3 _ _ ha)
      have hb5 := s5 _ _ (s3 _ _ hb)
      obtain ⟨i1, i2, i3⟩ := ind_int ns hperm kk (by omega)
      obtain ⟨j1, j2, j3⟩ := ind_int ns hperm (kk + 1) (by omega)
      refine ⟨rfl, _, rfl, a, rfl, ⟨_, .of ha5⟩, fun D6 nD6 => ?_⟩
      refine lcM_list (K := K) (R := fun _ x (t : Str) => x = V.str t) (R' := RInt) (zs := ts) (fun t => geAt t ns kk) (fun _ => 1) nD6 (.of ha5) (All2.of_map _) (fun _ _ _ _ _ r => r) rint_keep (by omega) ?_ ?_
      · rintro m x t H7 C7 C70 hm s7 rfl d1 d0
        have ht := hlen t (List.mem_of_getElem? hm)
        have hb7 := s7 _ _ hb5
        have hts : t.length ≤ sizeLine := by
          rw [show t.length = t.cps.toList.length from Array.length_toList.symm]
          omega
        refine ⟨rfl, _, rfl, _, rfl, _, rfl, b, _, _, _, rfl, rfl, .of hb7, (by rw [Int.zero_add]; exact i1), t, _, _, rfl, rfl, hts, at_sign t _ _ ht i2 i3, _, rfl, _, rfl, _, rfl, _, _, rfl, rfl, b, _, _, _, rfl, rfl, .of hb7, (by rw [show (0 : Int) + (kk : Nat) + 1 = ((kk + 1 : Nat) : Int) by omega]; exact j1), t, _, _, rfl, rfl, hts, at_sign t _ _ ht j2 j3, _, _, rfl, rfl, _, rfl, ?_⟩
        have e : (!decide ((⟨#[t.cps.toList.getD (ns.getD kk 0).toNat 0]⟩ : Str).cps.toList < (⟨#[t.cps.toList.getD (ns.getD (kk + 1) 0).toNat 0]⟩ : Str).cps.toList)) = geAt t ns kk := by
          rw [lt1]
          rfl
        rw [e]
        by_cases hg : geAt t ns kk = true
        · rw [hg]
          exact d1 hg _ _ (fun _ _ e => e) rfl
        · have hg3 : geAt t ns kk = false := by simpa using hg
          rw [hg3]
          exact d0 hg3 _ fun _ _ e => e
      intro ls H7 s7 hD7 hls
      have els := rint_map hls
      rw [els] at hD7
      dsimp only [tLst, tNil]
      refine ⟨(by show 0 ≤ sizeLine; decide), fun p8 z8 => ?_⟩
      obtain ⟨H8, e8, S8, A8⟩ := alloc (o := .lst []) z8
      rw [e8]
      refine ⟨lI _, lI [], dp_lI (.of (S8 _ _ hD7)), dp_lI (.of A8), shaped_lI _, shaped_lI _, _, rfl, ?_⟩
      rw [eqv_lI]
      by_cases hg : (ts.filter fun t => geAt t ns kk) = []
      · rw [hg]
        exact ⟨_, rfl, c1 (decide_eq_true hg) _ _ (fun b o e => S8 _ _ (s7 _ _ e)) rfl⟩
      · have hne : ¬ ((ts.filter fun t => geAt t ns kk).map fun _ => (1 : Int)) = [] := fun z => hg (List.map_eq_nil_iff.mp z)
        rw [decide_eq_false hne]
        exact c0 (decide_eq_false hg) _ fun b o e => S8 _ _ (s7 _ _ e)
    intro ls H5 s5 hD5 hls
    have els := rint_map hls
    rw [els] at hD5
    exact k D4 H5 (fun b o e => s5 _ _ (s3 _ _ e)) hD5
end
end T21

set_option Elab.async false
set_option linter.all false
set_option maxRecDepth 1000000
set_option maxHeartbeats 4000000
namespace T21
open PySem L2 EK LamX
def chkT (i n : Nat) : Bool := (txF (lets i) n).all fun t => decide (ordL t = (n : Int) :: ordM t)
theorem cT : ∀ i, i < 3 → ∀ n, n < 6 → chkT i n = true := by decide +kernel
/-- what is asked of one order and its texts -/
def goodB (i : Nat) (o : List Int) (grp : List Str) : Bool :=
  decide (numO o ((i + 1 : Nat) : Int) = ((grp.length : Nat) : Int)) &&
  (match grp with
  | [] => decide ((i + 1 : Nat) ≤ (dropsM o).length)
  | t :: _ => decide (textM o = t) && decide (dropsM o = grownM grp o))
def pairs (i n : Nat) : List (Str × List Int) := (txF (lets i) n).map fun t => (t, ordM t)
def grpP (ps : List (Str × List Int)) (o : List Int) : List Str := (ps.filter fun p => decide (p.2 = o)).map (·.1)
def chkO (i n : Nat) : Bool := (allF n).all fun o => goodB i o (grpP (pairs i n) o)
theorem cO : ∀ i, i < 3 → ∀ n, n < 5 → chkO i n = true := by decide +kernel
theorem cO5 : ∀ i, i < 3 → chkO i 5 = true := by decide +kernel
theorem cS : ∀ i, i < 3 → ∀ n, n < 6 → decide (((allF n).map fun o => numO o ((i + 1 : Nat) : Int)).sum = (((txF (lets i) n).length : Nat) : Int)) = true := by decide +kernel
theorem lets_l {i : Nat} (h : i < 3) : (lets i).length = i + 1 := by
  have : i = 0 ∨ i = 1 ∨ i = 2 := by omega
  rcases this with rfl | rfl | rfl <;> rfl
theorem isT_ord {i n : Nat} (hi : i < 3) (hn : n ≤ 5) {t : Str} (h : t ∈ txF (lets i) n) : (ordL t).drop 1 = ordM t := by
  have h1 := List.all_eq_true.mp (cT i hi n (by omega)) t h
  rw [of_decide_eq_true h1]
  rfl
theorem good {i n : Nat} (hi : i < 3) (hn : n ≤ 5) {o : List Int} (h : o ∈ allF n) : goodB i o (grpP (pairs i n) o) = true := by
  have h1 : chkO i n = true := by
    by_cases e : n = 5
    · rw [e]
      exact cO5 i hi
    · exact cO i hi n (by omega)
  exact List.all_eq_true.mp h1 o h
theorem sum_is {i n : Nat} (hi : i < 3) (hn : n ≤ 5) : ((allF n).map fun o => numO o ((i + 1 : Nat) : Int)).sum = (((txF (lets i) n).length : Nat) : Int) := of_decide_eq_true (cS i hi n (by omega))
end T21

set_option Elab.async false
set_option linter.all false
set_option maxRecDepth 100000
set_option maxHeartbeats 4000000
namespace T21
open PySem L2 EK LamX
/-- all but the tables stay, and what is free was free -/
def KeepT (H H' : Hp) : Prop := ExtN H H' ∧ ∀ b, H' b = none → H b = none
theorem KeepT.of {H H' : Hp} (s : ∀ b o, H b = some o → H' b = some o) : KeepT H H' := ⟨fun b o e _ => s b o e, fun b e => by
  cases h : H b with
  | none => rfl
  | some o => rw [s _ _ h] at e; cases e⟩
theorem KeepT.trans {H H1 H2 : Hp} (s : KeepT H H1) (t : KeepT H1 H2) : KeepT H H2 := ⟨s.1.trans t.1, fun b e => s.2 b (t.2 b e)⟩
theorem KeepT.lst {H H' : Hp} (s : KeepT H H') {a : Addr} {xs : List V} (h : H a = some (.lst xs)) : H' a = some (.lst xs) := s.1 _ _ h fun _ e => by cases e
theorem KeepT.tup {H H' : Hp} (s : KeepT H H') {a : Addr} {xs : List V} (h : H a = some (.tup xs)) : H' a = some (.tup xs) := s.1 _ _ h fun _ e => by cases e
theorem KeepT.dT {H H' : Hp} (s : KeepT H H') {a : Addr} {xs : List (List Key × V)} (h : H a = some (.dT xs)) : H' a = some (.dT xs) := s.1 _ _ h fun _ e => by cases e
/-- the tables stand when a dict is changed -/
theorem tabs_upd {T : List (Addr × Str)} {H : Hp} {d : Addr} {kvs kws : List (List Key × V)} (t : Tabs T H) (h : H d = some (.dT kvs)) : Tabs T (upd H d (.dT kws)) := fun p hp => by
  obtain ⟨ps, h1, h2, h3⟩ := t p hp
  refine ⟨ps, ?_, h2, fun pos cv hc => ?_⟩
  · rw [upd_ne (ne_of h1 h (by intro e; cases e))]
    exact h1
  · obtain ⟨c, e1, e2⟩ := h3 pos cv hc
    refine ⟨c, e1, ?_⟩
    rw [upd_ne (ne_of e2 h (by unfold CodeO; intro e; cases e))]
    exact e2
def kO (o : List Int) : List Key := o.map Sum.inl
theorem kO_V (o : List Int) : (kO o).map kV = o.map V.int := by unfold kO; rw [List.map_map]; rfl
theorem kO_inj {o o' : List Int} (h : kO o = kO o') : o = o' := by
  have := congrArg (List.map fun k : Key => match k with | .inl i => i | .inr _ => 0) h
  unfold kO at this
  rw [List.map_map, List.map_map] at this
  simpa [Function.comp_def] using this
/-- the dict tells for each order its texts -/
def GrpOk (H : Hp) (ps : List (Str × List Int)) (kvs : List (List Key × V)) : Prop := ∀ o, (grpP ps o = [] ∧ valV kvs (kO o) = none) ∨ ∃ q, grpP ps o ≠ [] ∧ valV kvs (kO o) = some (.ref q) ∧ H q = some (.lst ((grpP ps o).map V.str))
theorem GrpOk.keep {H H' : Hp} {ps : List (Str × List Int)} {kvs : List (List Key × V)} (g : GrpOk H ps kvs) (s : ∀ q l, H q = some (.lst l) → H' q = some (.lst l)) : GrpOk H' ps kvs := fun o =>
  (g o).imp id fun ⟨q, h1, h2, h3⟩ => ⟨q, h1, h2, s _ _ h3⟩
theorem grp_snoc (ps : List (Str × List Int)) (t : Str) (m o : List Int) : grpP (ps ++ [(t, m)]) o = if m = o then grpP ps o ++ [t] else grpP ps o := by
  unfold grpP
  rw [List.filter_append, List.map_append]
  by_cases h : m = o
  · rw [if_pos h]
    simp [h]
  · rw [if_neg h]
    simp [h]
theorem GrpOk.put {H : Hp} {ps : List (Str × List Int)} {kvs : List (List Key × V)} {q : Addr} {t : Str} {m : List Int} (g : GrpOk H ps kvs) (h : H q = some (.lst ((grpP ps m ++ [t]).map V.str))) : GrpOk H (ps ++ [(t, m)]) (putK kvs (kO m) (.ref q)) := fun o => by
  rw [grp_snoc, valV_put]
  by_cases e : m = o
  · subst e
    rw [if_pos rfl, if_pos rfl]
    exact .inr ⟨q, by simp, rfl, h⟩
  · rw [if_neg e, if_neg fun z => e (kO_inj z).symm]
    exact g o
theorem put_len (kvs : List (List Key × V)) (k : List Key) (v : V) : (putK kvs k v).length ≤ kvs.length + 1 := by
  unfold putK
  split
  · rw [List.length_map]; omega
  · rw [List.length_append]; exact Nat.le_refl _
def lS (ts : List Str) : PyData := .list (ts.map PyData.str)
theorem dp_strs {K : PySem.W.Frag} {H : Hp} : ∀ ts : List Str, DpAll K H (ts.map V.str) (ts.map PyData.str)
  | [] => .nil
  | t :: ts => .cons (.str t) (dp_strs ts)
theorem dp_lS {K : PySem.W.Frag} {H : Hp} {a : Addr} {ts : List Str} (h : SqL K H a (ts.map V.str)) : Dp K H (.ref a) (lS ts) := .lst h (dp_strs ts)
theorem lay_strs : ∀ ts : List Str, (∀ t ∈ ts, PyData.strOk t = true) → PyData.canLayAll0 (ts.map PyData.str) = true
  | [], _ => by simp [PyData.canLayAll0]
  | t :: ts, h => by simp [PyData.canLayAll0, PyData.canLay0, lay_strs ts fun u hu => h u (List.mem_cons_of_mem _ hu), h t List.mem_cons_self]
theorem depth_strs : ∀ ts : List Str, PyData.depthAll (ts.map PyData.str) = 0
  | [] => by simp [PyData.depthAll]
  | t :: ts => by simp [PyData.depthAll, PyData.depth, depth_strs ts]
theorem shaped_lS (ts : List Str) (h : ∀ t ∈ ts, PyData.strOk t = true) : SeqAt.shaped (lS ts) = true := by
  simp [lS, SeqAt.shaped, PyData.canLay0, PyData.depth, lay_strs ts h, depth_strs]
theorem OkT.strOk {n : Nat} {t : Str} (h : OkT n t) : PyData.strOk t = true := by
  unfold PyData.strOk
  rw [Array.all_eq_true']
  intro c hc
  rcases h.abc c (Array.mem_toList_iff.mpr hc) with rfl | rfl | rfl <;> decide
theorem eqv_lS (ts : List Str) : PyData.eqv (lS ts) (lI []) = decide (ts = []) := by
  cases ts with
  | nil => simp [lS, lI, PyData.eqv, PyData.eqvAll]
  | cons t ts => simp [lS, lI, PyData.eqv, PyData.eqvAll]
end T21

set_option Elab.async false
set_option linter.all false
set_option maxRecDepth 100000
set_option maxHeartbeats 4000000
namespace T21
open PySem L2 EK LamX
def spRight (PT : Addr) : Sp := fun vs H Q _ => ∃ i n : Nat, vs = [.int n, .str (lets i)] ∧ i < 3 ∧ n ≤ 5 ∧ Tabs [(PT, qOrd)] H ∧ ∀ H', KeepT H H' → Tabs [(PT, qOrd)] H' → Q (.bl true) H'
abbrev NR : List Str := ["_law_size", "_law_letters", "_law_groups", "_law_text", "_law_order_here", "_law_every", "_law_numbers", "_law_some"]
section
variable {P : Program} {w : World} {K : PySem.W.Frag} {mg : Str → Option Value} {base : Heap} {PT CO CN fX fQ fOO fA fM fT fD fG : Addr} {fdX fdQ fdOO fdA fdM fdT fdD fdG : FuncData}
theorem scRight : FnScope NR ["_law_size", "_law_letters"] (defScope sRight) := ⟨rfl, rfl, rfl, by decide +kernel, rfl, by decide +kernel, by decide +kernel⟩
theorem ok_right {f : Addr} {fd : FuncData} (F : Fun K "_law_right" "_law_right" sRight f fd) (T : TxtC K mg)
    (GX : FnOk P w K mg base CX0 1 fX fdX ["_law_size", "_law_letters"] spTexts) (gX : mg "_law_all_texts" = some (.ref fX)) (kX : PySem.W.keepIn K (.ref fX) = true) (bX : Binds K fdX ["_law_size", "_law_letters"] [])
    (GQ : FnOk P w K mg base CX0 2 fQ fdQ ["_law_text"] spOrder) (gQ : mg "_law_order" = some (.ref fQ)) (kQ : PySem.W.keepIn K (.ref fQ) = true) (bQ : Binds K fdQ ["_law_text"] [])
    (GOO : FnOk P w K mg base CX0 3 fOO fdOO ["text"] (spOrderOf PT)) (gOO : mg "order_of" = some (.ref fOO)) (kOO : PySem.W.keepIn K (.ref fOO) = true) (bOO : Binds K fdOO ["text"] [])
    (GA : FnOk P w K mg base CX0 1 fA fdA ["_law_size"] spAll) (gA : mg "_law_all_orders" = some (.ref fA)) (kA : PySem.W.keepIn K (.ref fA) = true) (bA : Binds K fdA ["_law_size"] [])
    (GM : FnOk P w K mg base (L2.CX P w) 5 fM fdM ["order", "letters"] (spOrdN CO CN)) (gM : mg "orders_number" = some (.ref fM)) (kM : PySem.W.keepIn K (.ref fM) = true) (bM : Binds K fdM ["order", "letters"] [])
    (GT : FnOk P w K mg base (L2.CX P w) 5 fT fdT ["order"] (spLeastT CO)) (gT : mg "least_text" = some (.ref fT)) (kT : PySem.W.keepIn K (.ref fT) = true) (bT : Binds K fdT ["order"] [])
    (GD : FnOk P w K mg base (L2.CX P w) 4 fD fdD ["order"] (spDrops CO)) (gD : mg "drops" = some (.ref fD)) (kD : PySem.W.keepIn K (.ref fD) = true) (bD : Binds K fdD ["order"] [])
    (GG : FnOk P w K mg base CX0 1 fG fdG ["_law_texts", "_law_order_here"] spGrown) (gG : mg "_law_grown" = some (.ref fG)) (kG : PySem.W.keepIn K (.ref fG) = true) (bG : Binds K fdG ["_law_texts", "_law_order_here"] []) :
    FnOk P w K mg base CX0 6 f fd ["_law_size", "_law_letters"] (spRight PT) := by
  refine F.ok scRight (fun vs H Q E h => ?_) (fun cdv A outer s H vs Q E hr h => ?_)
  · obtain ⟨i, n, rfl, _⟩ := h
    rfl
  · obtain ⟨li, n, rfl, hli, hn, hT, k⟩ := h
    have nd := scRight.nd
    have hz : sizeLine = 2 ^ 24 := sizeLine_eq
    have hu : (A.deeper (PyProof.Rows.envOfC "_law_right" (defScope sRight) s.heap.objs.size f cdv)).units + 64 < cLine := hr.units
    have hu1 : (A.deeper (PyProof.Rows.envOfC "_law_right" (defScope sRight) s.heap.objs.size f cdv)).units + 1 < cLine := by omega
    have hr1 : Room 1 _ := hr.mono (by decide)
    have hr2 : Room 2 _ := hr.mono (by decide)
    have hr3 : Room 3 _ := hr.mono (by decide)
    have hr4 : Room 4 _ := hr.mono (by decide)
    have hr5 : Room 5 _ := hr.mono (by decide)
    refine ⟨_, (pss_cons (ps_set (i := 2) nd rfl (Or.inl rfl) pe_dnewT)
      (pss_cons (ps_for PassesOwn.never rfl (pi_list (pe_call GX hr1 rfl gX kX bX .nil pass0 (pa_cons (pv 0) (pa_cons (pv 1) pa_nil)))) (pg_name (i := 3) nd rfl (Or.inl rfl)) (pss_cons (ps_set (i := 4) nd rfl (Or.inl rfl) (pe_tupleOf (by rfl) T.tuple (pe_slice sl_list (pe_call GQ hr2 rfl gQ kQ bQ .nil pass0 (pa_cons (pv 3) pa_nil)) (po_some pe_int) po_none)))
      (pss_cons (ps_if (pt_cmpR (op_neD hu) (pe_call GOO hr3 rfl gOO kOO bOO .nil pass0 (pa_cons (pv 3) pa_nil)) (pv 4) (nomark _)) (pss_one (ps_ret pe_bl)) pss_nil)
      (pss_one (ps_dput hu1 (pv 2) (pv 4) (pe_op op_cat (pe_dget2 hu1 (pv 2) (pv 4) (pe_lst pa_nil) ⟨rfl, rfl, rfl, rfl⟩) (pe_lst (pa_cons (pv 3) pa_nil))) rfl)))))
      (pss_cons (ps_set (i := 5) nd rfl (Or.inl rfl) (pe_call GA hr1 rfl gA kA bA .nil pass0 (pa_cons (pv 0) pa_nil)))
      (pss_cons (ps_setLc (i := 6) (own := [("_law_order_here", 4)]) (g := gName 4) (tt := tYes) rfl nd rfl rfl (sw_true rfl rfl rfl (by decide +kernel)) (pi_list (pv 5)) (blkOk_by (N := NR) (sc := defScope sRight) (by decide +kernel)) (fun _ _ _ _ _ => (pg_name (i := 4) nd rfl (Or.inl rfl))) (fun _ _ _ _ _ => pts_nil) (fun _ _ _ _ _ => (pe_call GM hr5 rfl gM kM bM .nil passL (pa_cons (pv 4) (pa_cons (pe_callB call_len_str (by rfl) T.len (by decide +kernel) (pa_cons (pv 1) pa_nil)) pa_nil)))))
      (pss_cons (ps_if (pt_cmpR op_ne (pe_callB (cr_sum rfl) (by rfl) T.sum (by decide +kernel) (pa_cons (pv 6) pa_nil)) (pe_callB call_len_seq (by rfl) T.len (by decide +kernel) (pa_cons (pe_call GX hr1 rfl gX kX bX .nil pass0 (pa_cons (pv 0) (pa_cons (pv 1) pa_nil))) pa_nil)) (nomark _)) (pss_one (ps_ret pe_bl)) pss_nil)
      (pss_cons (ps_for PassesOwn.never rfl (pi_list (pv 5)) (pg_name (i := 4) nd rfl (Or.inl rfl)) (pss_cons (ps_set (i := 7) nd rfl (Or.inl rfl) (pe_dget2 hu1 (pv 2) (pv 4) (pe_lst pa_nil) ⟨rfl, rfl, rfl, rfl⟩))
      (pss_cons (ps_if (pt_cmpR op_ne (pe_call GM hr5 rfl gM kM bM .nil passL (pa_cons (pv 4) (pa_cons (pe_callB call_len_str (by rfl) T.len (by decide +kernel) (pa_cons (pv 1) pa_nil)) pa_nil))) (pe_callB call_len_seq (by rfl) T.len (by decide +kernel) (pa_cons (pv 7) pa_nil)) (nomark _)) (pss_one (ps_ret pe_bl)) pss_nil)
      (pss_cons (ps_if (PW.pt (pw_and (pt_cmpR (op_neD hu) (pv 7) (pe_lst pa_nil) (nomark _)) (pw_and1 (pt_cmpR op_ne (pe_call GT hr5 rfl gT kT bT .nil passL (pa_cons (pv 4) pa_nil)) (pe_ix ix_list (pv 7) pe_int (fun _ _ => rfl)) (nomark _))))) (pss_one (ps_ret pe_bl)) pss_nil)
      (pss_cons (ps_if (PW.pt (pw_and (pt_cmpR (op_neD hu) (pv 7) (pe_lst pa_nil) (nomark _)) (pw_and1 (pt_cmpR (op_neD hu) (pe_call GD hr4 rfl gD kD bD .nil passL (pa_cons (pv 4) pa_nil)) (pe_call GG hr1 rfl gG kG bG .nil pass0 (pa_cons (pv 7) (pa_cons (pv 4) pa_nil))) (nomark _))))) (pss_one (ps_ret pe_bl)) pss_nil)
      (pss_one (ps_if (PW.pt (pw_and (pt_cmpR (op_eqD hu) (pv 7) (pe_lst pa_nil) (nomark _)) (pw_and1 (pt_cmpR op_lt (pe_callB call_len_seq (by rfl) T.len (by decide +kernel) (pa_cons (pe_call GD hr4 rfl gD kD bD .nil passL (pa_cons (pv 4) pa_nil)) pa_nil)) (pe_callB call_len_str (by rfl) T.len (by decide +kernel) (pa_cons (pv 1) pa_nil)) (nomark _))))) (pss_one (ps_ret pe_bl)) pss_nil)))))))
      (pss_one (ps_ret pe_bl)))))))), ?_⟩
    intro d nd0
    obtain ⟨H2, e2, S2, A2⟩ := alloc (o := .dT []) nd0
    rw [e2]
    refine ⟨_, rfl, _, rfl, li, n, rfl, hli, hn, fun pt H3 s3 A3 => ?_⟩
    have K3 : KeepT H H3 := (KeepT.of S2).trans (KeepT.of s3)
    have htx : (txF (lets li) n).length ≤ 243 := tx_big hli hn
    refine ⟨pt, rfl, ⟨_, .of A3⟩, for_list (K := K) (a := pt) (xs := (txF (lets li) n).map V.str) (fun j σ H' => ∃ v3 v4 : Option V, σ = [some (.int n), some (.str (lets li)), some (.ref d), v3, v4, none, none, none] ∧ KeepT H H' ∧ Tabs [(PT, qOrd)] H' ∧ H' pt = some (.lst ((txF (lets li) n).map V.str)) ∧ ∃ kvs, H' d = some (.dT kvs) ∧ kvs.length ≤ j ∧ GrpOk H' ((pairs li n).take j) kvs) ⟨none, none, rfl, K3, hT.ext (fun b o e => s3 _ _ (S2 _ _ e)), A3, [], s3 _ _ A2, Nat.le_refl _, fun o => .inl ⟨rfl, rfl⟩⟩ (fun j σ H' _ ⟨_, _, _, _, _, h, _⟩ => .of h) ?_ ?_⟩
    · rintro j x σ H5 hj ⟨v3, v4, rfl, k5, t5, p5, kvs, d5, l5, g5⟩
      have hjl : j < 243 := by
        have := (List.getElem?_eq_some_iff.mp hj).1
        rw [List.length_map] at this
        omega
      rw [List.getElem?_map] at hj
      obtain ⟨t, ht, rfl⟩ : ∃ t, (txF (lets li) n)[j]? = some t ∧ V.str t = x := by
        cases h : (txF (lets li) n)[j]? with
        | none => rw [h] at hj; cases hj
        | some t => rw [h] at hj; exact ⟨t, rfl, Option.some.inj hj⟩
      have hmt := List.mem_of_getElem? ht
      have okt := okT hli hn hmt
      have hps : (pairs li n)[j]? = some (t, ordM t) := by
        unfold pairs
        rw [List.getElem?_map, ht]
        rfl
      refine ⟨_, rfl, t, rfl, by rw [okt.len]; omega, fun p6 H6 s6 A6 => ?_⟩
      refine ⟨_, rfl, p6, _, rfl, .of A6, fun p7 z7 => ?_⟩
      have ec : cutV ((ordL t).map V.int) (some 1) none = (ordM t).map V.int := by
        rw [cut_drop _ 1 1 rfl, isT_ord hli hn hmt]
      rw [ec]
      obtain ⟨H7, e7, S7, A7⟩ := alloc (o := .lst ((ordM t).map V.int)) z7
      rw [e7]
      refine .inl ⟨p7, _, rfl, .of A7, fun p8 z8 => ?_⟩
      obtain ⟨H8, e8, S8, A8⟩ := alloc (o := .tup ((ordM t).map V.int)) z8
      rw [e8]
      have k8 : KeepT H5 H8 := ((KeepT.of s6).trans (KeepT.of S7)).trans (KeepT.of S8)
      have t8 : Tabs [(PT, qOrd)] H8 := t5.ext fun b o e => S8 _ _ (S7 _ _ (s6 _ _ e))
      have hsz : t.cps.size ≤ 1000 := by rw [← Array.length_toList, okt.len]; omega
      refine ⟨_, rfl, t, rfl, hsz, okt.isT, t8, fun p9 H9 e9 mn9 t9 A9 => ?_⟩
      have k9 : KeepT H8 H9 := ⟨e9, mn9⟩
      have A8b := k9.tup A8
      refine ⟨_, rfl, tI (ordM t), tI (ordM t), dp_tI (.of A9), dp_tI (.of A8b), shaped_tI _, shaped_tI _, _, rfl, ?_⟩
      rw [eqv_tI, decide_eq_true rfl]
      have k59 := k8.trans k9
      have d9 := k59.dT d5
      have g9 : GrpOk H9 ((pairs li n).take j) kvs := g5.keep fun q l e => k59.lst e
      refine ⟨_, rfl, d, rfl, .inr ⟨_, .inl d9⟩, _, rfl, ?_⟩
      dsimp only [tLst, tNil]
      refine ⟨(by show 0 ≤ sizeLine; decide), fun p10 z10 => ?_⟩
      obtain ⟨H10, e10, S10, A10⟩ := alloc (o := .lst []) z10
      rw [e10]
      have k10 := KeepT.of S10
      have A8c := k10.tup A8b
      have A8k : H10 p8 = some (.tup ((kO (ordM t)).map kV)) := by rw [kO_V]; exact A8c
      have d10 := k10.dT d9
      have g10 : GrpOk H10 ((pairs li n).take j) kvs := g9.keep fun q l e => k10.lst e
      refine ⟨_, DGet.t d10 A8k, ?_⟩
      obtain ⟨q0, eq0, hq0⟩ : ∃ q0, (valV kvs (kO (ordM t))).getD (.ref p10) = .ref q0 ∧ H10 q0 = some (.lst ((grpP ((pairs li n).take j) (ordM t)).map V.str)) := by
        rcases g10 (ordM t) with ⟨h1, h2⟩ | ⟨q, h1, h2, h3⟩
        · exact ⟨p10, by rw [h2]; rfl, by rw [h1]; exact A10⟩
        · exact ⟨q, by rw [h2]; rfl, h3⟩
      rw [eq0]
      have hgl : (grpP ((pairs li n).take j) (ordM t)).length ≤ 243 := by
        unfold grpP
        rw [List.length_map]
        refine Nat.le_trans (List.length_filter_le _ _) ?_
        rw [List.length_take]
        omega
      refine ⟨_, rfl, (by show 1 ≤ sizeLine; decide), fun p11 z11 => ?_⟩
      obtain ⟨H11, e11, S11, A11⟩ := alloc (o := .lst [V.str t]) z11
      rw [e11]
      refine ⟨q0, p11, _, _, rfl, rfl, S11 _ _ hq0, A11, by rw [List.length_map]; show _ + 1 ≤ _; omega, fun q2 z12 => ?_⟩
      have ecat : (grpP ((pairs li n).take j) (ordM t)).map V.str ++ [V.str t] = (grpP ((pairs li n).take j) (ordM t) ++ [t]).map V.str := by rw [List.map_append]; rfl
      rw [ecat]
      obtain ⟨H12, e12, S12, A12⟩ := alloc (o := .lst ((grpP ((pairs li n).take j) (ordM t) ++ [t]).map V.str)) z12
      rw [e12]
      have k12 : KeepT H10 H12 := (KeepT.of S11).trans (KeepT.of S12)
      have d12 := k12.dT d10
      have A8d := k12.tup A8k
      have g12 : GrpOk H12 ((pairs li n).take j) kvs := g10.keep fun q l e => k12.lst e
      have k5c : KeepT H5 H12 := (k59.trans k10).trans k12
      have t12 : Tabs [(PT, qOrd)] H12 := t9.ext fun b o e => S12 _ _ (S11 _ _ (S10 _ _ e))
      refine ⟨_, rfl, _, rfl, d, _, rfl, DPut.t d12 A8d (by omega), ?_⟩
      refine ⟨_, _, rfl, ⟨fun b o e nt => ?_, fun b e => ?_⟩, tabs_upd t12 d12, ?_, _, upd_same, Nat.le_trans (put_len _ _ _) (by omega), ?_⟩
      · rw [upd_ne (ne_of_none e nd0)]
        exact (k5.trans k5c).1 _ _ e nt
      · exact (k5.trans k5c).2 b (NdefX.upd_none e)
      · rw [upd_ne (ne_of (k5c.lst p5) d12 (by intro e; cases e))]
        exact k5c.lst p5
      · rw [List.take_succ, hps]
        refine GrpOk.keep (H := H12) ?_ fun q l e => ?_
        · exact g12.put A12
        · rw [upd_ne (ne_of e d12 (by intro e; cases e))]
          exact e
    · rintro σ H5 ⟨v3, v4, rfl, k5, t5, p5, kvs, d5, l5, g5⟩
      rw [List.length_map] at g5
      have epl : (pairs li n).take (txF (lets li) n).length = pairs li n := List.take_of_length_le (by unfold pairs; rw [List.length_map]; exact Nat.le_refl _)
      rw [epl] at g5
      have noneE : ∀ (H' : Hp) (po : Addr) (one : List Int), one ∈ allF n → H' po = some (.tup (one.map V.int)) → IsO H' (.ref po) true := fun H' po one hm hp => isO_of hp (okO (by omega) hm).perm (by have := (okO (by omega) hm).len; omega)
      have same_ints : ∀ {as bs : List Int}, as.map V.int = bs.map V.int → as = bs := fun {as bs} h => by
        have := congrArg (List.map valI) h
        rw [List.map_map, List.map_map] at this
        simpa [Function.comp_def, valI] using this
      have same_tup : ∀ {H' : Hp} {po pq : Addr} {as bs : List Int}, H' po = some (.tup (as.map V.int)) → V.ref po = V.ref pq → H' pq = some (.tup (bs.map V.int)) → bs = as := fun {H' po pq as bs} h1 h2 h3 => by
        cases h2
        rw [h1] at h3
        injection h3 with h3
        injection h3 with h3
        exact (same_ints h3).symm
      have hll : (lets li).length = li + 1 := lets_l hli
      have hM : ∀ (H' : Hp) (po : Addr) (one : List Int) (Q' : VK) (E' : XK), one ∈ allF n → H' po = some (.tup (one.map V.int)) → (∀ H'', Same H' H'' → Q' (.int (numO one ((li + 1 : Nat) : Int))) H'') → spOrdN CO CN [.ref po, .int ((lets li).length : Int)] H' Q' E' := fun H' po one Q' E' hm hp kq =>
        ⟨.ref po, .int _, true, rfl, noneE _ _ _ hm hp, .int _, fun z => (by cases z), fun _ z => absurd z (by rw [hll]; show ¬ (decide ((0 : Int) ≤ ((li + 1 : Nat) : Int)) && decide (((li + 1 : Nat) : Int) ≤ 26)) = false; rw [decide_eq_true (by omega), decide_eq_true (by omega)]; decide), fun _ a' ns' l' ea ha' el h0 h1 H13 s13 => by
          have ens := same_tup hp ea ha'
          subst ens
          rw [hll] at el
          cases el
          exact kq H13 s13⟩
      have hTx : ∀ (H' : Hp) (po : Addr) (one : List Int) (Q' : VK) (E' : XK), one ∈ allF n → H' po = some (.tup (one.map V.int)) → (∀ H'', Same H' H'' → Q' (.str (textM one)) H'') → spLeastT CO [.ref po] H' Q' E' := fun H' po one Q' E' hm hp kq =>
        ⟨.ref po, true, rfl, noneE _ _ _ hm hp, fun z => (by cases z), fun _ a' ns' ea ha' => by
          have ens := same_tup hp ea ha'
          subst ens
          exact ⟨by have := (okO (by omega) hm).len; omega, fun H13 s13 => kq H13 s13⟩⟩
      have hDr : ∀ (H' : Hp) (po : Addr) (one : List Int) (Q' : VK) (E' : XK), one ∈ allF n → H' po = some (.tup (one.map V.int)) → (∀ p H'', Same H' H'' → H'' p = some (.lst ((dropsM one).map V.int)) → Q' (.ref p) H'') → spDrops CO [.ref po] H' Q' E' := fun H' po one Q' E' hm hp kq =>
        ⟨.ref po, true, rfl, noneE _ _ _ hm hp, fun z => (by cases z), fun _ a' ns' ea ha' p H13 s13 A13 => by
          have ens := same_tup hp ea ha'
          subst ens
          exact kq p H13 s13 A13⟩
      refine ⟨_, rfl, n, rfl, by omega, fun pe ye H6 s6 A6 R6 => ?_⟩
      have hbig := allF_big (p := n) (by omega)
      have hly := R6.length
      refine ⟨_, rfl, pe, rfl, ⟨ye, .of A6⟩, fun D7 nD7 => lcM_list (K := K) (R := RTup) (R' := RInt) (fun _ => true) (fun one => numO one ((li + 1 : Nat) : Int)) nD7 (.of A6) R6 rtup_same rint_keep (by omega) ?_ ?_⟩
      · rintro i x one H7 C C0 hi s7 ⟨po, rfl, hpo⟩ c1 _
        have hm := List.mem_of_getElem? hi
        refine ⟨rfl, _, rfl, _, rfl, _, rfl, by omega, hM _ _ _ _ _ hm hpo fun H8 s8 => ?_⟩
        exact c1 rfl _ _ s8 rfl
      intro fy H7 s7 hD7 R7
      rw [List.filter_eq_self.mpr fun _ _ => rfl] at R7
      have ey7 := rint_map R7
      rw [ey7] at hD7
      refine ⟨_, rfl, D7, _, rfl, .of hD7, _, rfl, _, rfl, li, n, rfl, hli, hn, fun p8 H8 s8 A8 => ?_⟩
      refine ⟨p8, _, rfl, .inl (.of A8), rfl, _, rfl, iteNS (by rw [sum_is hli hn, List.length_map]) ?_⟩
      have s58 : Same H5 H8 := fun b o e => s8 _ _ (s7 _ _ (s6 _ _ e))
      have A6b := s8 _ _ (s7 _ _ A6)
      have d8 := s58 _ _ d5
      have g8 : GrpOk H8 (pairs li n) kvs := g5.keep fun q l e => s58 _ _ e
      have R8 : All2 (RTup H8) ye (allF n) := R6.mono fun x z _ r => rtup_same _ _ _ _ (fun b o e => s8 _ _ (s7 _ _ e)) r
      refine ⟨_, rfl, pe, rfl, ⟨ye, .of A6b⟩, for_list (K := K) (a := pe) (xs := ye) (fun j σ H' => ∃ v4 v7 : Option V, σ = [some (.int n), some (.str (lets li)), some (.ref d), v3, v4, some (.ref pe), some (.ref D7), v7] ∧ Same H8 H') ⟨v4, none, rfl, .refl _⟩ (fun j σ H' _ ⟨_, _, _, s⟩ => .of (s _ _ A6b)) ?_ ?_⟩
      · rintro j x σ H9 hj ⟨v4, v7, rfl, s9⟩
        obtain ⟨one, hone, po, rfl, hpo⟩ := R8.get hj
        have hm := List.mem_of_getElem? hone
        have hpo9 := s9 _ _ hpo
        have d9 := s9 _ _ d8
        have g9 : GrpOk H9 (pairs li n) kvs := g8.keep fun q l e => s9 _ _ e
        have gb := good hli hn hm
        unfold goodB at gb
        rw [Bool.and_eq_true] at gb
        have gnum := of_decide_eq_true gb.1
        have ggrp := gb.2
        refine ⟨_, rfl, d, rfl, .inr ⟨_, .inl d9⟩, _, rfl, ?_⟩
        dsimp only [tLst, tNil]
        refine ⟨(by show 0 ≤ sizeLine; decide), fun p10 z10 => ?_⟩
        obtain ⟨H10, e10, S10, A10⟩ := alloc (o := .lst []) z10
        rw [e10]
        have hpo10 := S10 _ _ hpo9
        refine ⟨_, DGet.t (S10 _ _ d9) (by rw [kO_V]; exact hpo10), ?_⟩
        obtain ⟨q0, eq0, hq0⟩ : ∃ q0, (valV kvs (kO one)).getD (.ref p10) = .ref q0 ∧ H10 q0 = some (.lst ((grpP (pairs li n) one).map V.str)) := by
          rcases g9 one with ⟨h1, h2⟩ | ⟨q, h1, h2, h3⟩
          · exact ⟨p10, by rw [h2]; rfl, by rw [h1]; exact A10⟩
          · exact ⟨q, by rw [h2]; rfl, S10 _ _ h3⟩
        rw [eq0]
        have hok : ∀ t ∈ grpP (pairs li n) one, OkT n t := fun t ht => by
          unfold grpP at ht
          obtain ⟨⟨u, m⟩, hu1, rfl⟩ := List.mem_map.mp ht
          have hu2 := (List.mem_filter.mp hu1).1
          unfold pairs at hu2
          obtain ⟨v, hv, ev⟩ := List.mem_map.mp hu2
          cases ev
          exact okT hli hn hv
        have hgl : (grpP (pairs li n) one).length ≤ 243 := by
          unfold grpP
          rw [List.length_map]
          refine Nat.le_trans (List.length_filter_le _ _) ?_
          unfold pairs
          rw [List.length_map]
          exact htx
        have hol := (okO (show n ≤ 6 by omega) hm).len
        have hop := (okO (show n ≤ 6 by omega) hm).perm
        refine ⟨_, rfl, _, rfl, _, rfl, by omega, ?_⟩
        dsimp only [tNil]
        refine hM _ _ _ _ _ hm hpo10 fun H11 s11 => ?_
        have q11 := s11 _ _ hq0
        refine ⟨_, rfl, q0, _, rfl, .inl (.of q11), rfl, _, rfl, iteNS (by rw [gnum, List.length_map]) ?_⟩
        have shp := shaped_lS (grpP (pairs li n) one) fun t ht => (hok t ht).strOk
        refine ⟨_, rfl, ?_⟩
        dsimp only [tLst, tNil]
        refine ⟨(by show 0 ≤ sizeLine; decide), fun p12 z12 => ?_⟩
        obtain ⟨H12, e12, S12, A12⟩ := alloc (o := .lst []) z12
        rw [e12]
        have q12 := S12 _ _ q11
        refine ⟨lS _, lI [], dp_lS (.of q12), dp_lI (.of A12), shp, shaped_lI _, _, rfl, ?_⟩
        rw [eqv_lS]
        have S912 : Same H9 H12 := fun b o e => S12 _ _ (s11 _ _ (S10 _ _ e))
        have hpo12 := S912 _ _ hpo9
        by_cases hgrp : grpP (pairs li n) one = []
        · rw [decide_eq_true hgrp, Bool.not_true]
          refine ⟨_, rfl, ?_⟩
          dsimp only [tLst, tNil]
          refine ⟨(by show 0 ≤ sizeLine; decide), fun p13 z13 => ?_⟩
          obtain ⟨H13, e13, S13, A13⟩ := alloc (o := .lst []) z13
          rw [e13]
          refine ⟨lS _, lI [], dp_lS (.of (S13 _ _ q12)), dp_lI (.of A13), shp, shaped_lI _, _, rfl, ?_⟩
          rw [eqv_lS, decide_eq_true hgrp, Bool.not_true]
          refine ⟨_, rfl, ?_⟩
          dsimp only [tLst, tNil]
          refine ⟨(by show 0 ≤ sizeLine; decide), fun p14 z14 => ?_⟩
          obtain ⟨H14, e14, S14, A14⟩ := alloc (o := .lst []) z14
          rw [e14]
          refine ⟨lS _, lI [], dp_lS (.of (S14 _ _ (S13 _ _ q12))), dp_lI (.of A14), shp, shaped_lI _, _, rfl, ?_⟩
          rw [eqv_lS, decide_eq_true hgrp]
          refine ⟨_, rfl, ?_⟩
          dsimp only [tNil]
          refine hDr _ _ _ _ _ hm (S14 _ _ (S13 _ _ hpo12)) fun p15 H15 s15 A15 => ?_
          refine ⟨p15, _, rfl, .inl (.of A15), _, rfl, _, rfl, by omega, _, _, rfl, rfl, _, rfl, ?_⟩
          rw [hgrp] at ggrp
          have gd : li + 1 ≤ (dropsM one).length := of_decide_eq_true ggrp
          rw [decide_eq_false (by rw [List.length_map, hll]; omega)]
          exact ⟨_, _, rfl, fun b o e => s15 _ _ (S14 _ _ (S13 _ _ (S912 _ _ (s9 _ _ e))))⟩
        · rw [decide_eq_false hgrp, Bool.not_false]
          obtain ⟨t0, rest, eg⟩ : ∃ t0 rest, grpP (pairs li n) one = t0 :: rest := by
            cases h : grpP (pairs li n) one with
            | nil => exact absurd h hgrp
            | cons t0 rest => exact ⟨t0, rest, rfl⟩
          have ggrp2 := ggrp
          rw [eg] at ggrp2
          have ggrp3 : (decide (textM one = t0) && decide (dropsM one = grownM (t0 :: rest) one)) = true := ggrp2
          rw [Bool.and_eq_true] at ggrp3
          have gt := of_decide_eq_true ggrp3.1
          have gdr := of_decide_eq_true ggrp3.2
          rw [← eg] at gdr
          refine ⟨_, rfl, ?_⟩
          dsimp only [tNil]
          refine hTx _ _ _ _ _ hm hpo12 fun H13 s13 => ?_
          have q13 := s13 _ _ q12
          refine ⟨_, rfl, q0, _, 0, .str t0, rfl, rfl, .of q13, atI_nat (j := 0) (by rw [eg]; rfl), rfl, _, rfl, iteNS (by rw [gt]) ?_⟩
          have hpo13 := s13 _ _ hpo12
          refine ⟨_, rfl, ?_⟩
          dsimp only [tLst, tNil]
          refine ⟨(by show 0 ≤ sizeLine; decide), fun p14 z14 => ?_⟩
          obtain ⟨H14, e14, S14, A14⟩ := alloc (o := .lst []) z14
          rw [e14]
          refine ⟨lS _, lI [], dp_lS (.of (S14 _ _ q13)), dp_lI (.of A14), shp, shaped_lI _, _, rfl, ?_⟩
          rw [eqv_lS, decide_eq_false hgrp, Bool.not_false]
          refine ⟨_, rfl, ?_⟩
          dsimp only [tNil]
          refine hDr _ _ _ _ _ hm (S14 _ _ hpo13) fun p15 H15 s15 A15 => ?_
          have q15 := s15 _ _ (S14 _ _ q13)
          have hpo15 := s15 _ _ (S14 _ _ hpo13)
          refine ⟨_, rfl, _, rfl, q0, po, _, one, rfl, q15, hpo15, hgl, by omega, hop, fun t ht => by rw [(hok t ht).len, hol], fun p16 H16 s16 A16 => ?_⟩
          refine ⟨lI _, lI _, dp_lI (.of (s16 _ _ A15)), dp_lI (.of A16), shaped_lI _, shaped_lI _, _, rfl, ?_⟩
          rw [eqv_lI, decide_eq_true gdr, Bool.not_true]
          refine ⟨_, rfl, ?_⟩
          dsimp only [tLst, tNil]
          refine ⟨(by show 0 ≤ sizeLine; decide), fun p17 z17 => ?_⟩
          obtain ⟨H17, e17, S17, A17⟩ := alloc (o := .lst []) z17
          rw [e17]
          refine ⟨lS _, lI [], dp_lS (.of (S17 _ _ (s16 _ _ q15))), dp_lI (.of A17), shp, shaped_lI _, _, rfl, ?_⟩
          rw [eqv_lS, decide_eq_false hgrp]
          exact ⟨_, _, rfl, fun b o e => S17 _ _ (s16 _ _ (s15 _ _ (S14 _ _ (s13 _ _ (S912 _ _ (s9 _ _ e))))))⟩
      · rintro σ H9 ⟨v4, v7, rfl, s9⟩
        exact k H9 (k5.trans ((KeepT.of s58).trans (KeepT.of s9))) (t5.ext fun b o e => s9 _ _ (s58 _ _ e))
end
end T21

set_option Elab.async false
set_option linter.all false
set_option maxRecDepth 100000
set_option maxHeartbeats 4000000
namespace T21
open PySem L2 EK LamX
section
variable {P : Program} {w : World} {K : PySem.W.Frag} {mg : Str → Option Value} {base : Heap} {PT CO fCT fCO fOO : Addr} {fdCT fdCO fdOO : FuncData}
theorem ok_has {f : Addr} {fd : FuncData} (F : Fun K "has_order" "has_order" sHas f fd) (T : TxtC K mg)
    (GCT : FnOk P w K mg base CX0 2 fCT fdCT ["text"] spCkText) (gCT : mg "check_text" = some (.ref fCT)) (kCT : PySem.W.keepIn K (.ref fCT) = true) (bCT : Binds K fdCT ["text"] [])
    (GCO : FnOk P w K mg base (L2.CX P w) 3 fCO fdCO ["order"] (spCkOrd CO)) (gCO : mg "check_order" = some (.ref fCO)) (kCO : PySem.W.keepIn K (.ref fCO) = true) (bCO : Binds K fdCO ["order"] [])
    (GOO : FnOk P w K mg base CX0 3 fOO fdOO ["text"] (spOrderOf PT)) (gOO : mg "order_of" = some (.ref fOO)) (kOO : PySem.W.keepIn K (.ref fOO) = true) (bOO : Binds K fdOO ["text"] []) :
    FnOk P w K mg base (L2.CX P w) 4 f fd ["text", "order"] (spHas PT) := by
  refine F.okX scHas (fun vs H Q E h => ?_) (fun cdv A outer s H vs Q E hr h => ?_)
  · obtain ⟨z, a, ns, rfl, _⟩ := h
    rfl
  · obtain ⟨z, a, ns, rfl, hz, ht, ha, hp, hl, hT, k⟩ := h
    have nd := scHas.nd
    have hr3 : Room 3 _ := hr
    have hr2 : Room 2 _ := hr.mono (by decide)
    have hu : (A.deeper (PyProof.Rows.envOfC "has_order" (defScope sHas) s.heap.objs.size f cdv)).units + 64 < cLine := hr.units
    refine ⟨_, (pss_cons (ps_expr (pe_call GCT hr2 rfl gCT kCT bCT .nil pass0 (pa_cons (pv 0) pa_nil)))
      (pss_cons (ps_expr (pe_call GCO hr3 rfl gCO kCO bCO .nil (passes_call (takes_of rfl rfl rfl rfl) fun _ _ _ _ h => h) (pa_cons (pv 1) pa_nil)))
      (pss_one (ps_ret (pe_cmpR (op_eqD hu) (pe_call GOO hr3 rfl gOO kOO bOO .nil pass0 (pa_cons (pv 0) pa_nil)) (pv 1) (nomark _)))))), ?_⟩
    refine ⟨_, rfl, z, rfl, hz, ht, fun H1 s1 => ?_⟩
    have hO := isO_of (s1 _ _ ha) hp hl
    refine ⟨_, rfl, .ref a, true, rfl, hO, fun H2 s2 => ⟨fun _ => ?_, fun e => (by cases e)⟩⟩
    have hT2 : Tabs [(PT, qOrd)] H2 := hT.ext fun b o e => s2 _ _ (s1 _ _ e)
    refine ⟨_, rfl, z, rfl, hz, ht, hT2, fun p H3 e3 mn T3 hp3 => ?_⟩
    have kt : KeepT H H3 := ((KeepT.of s1).trans (KeepT.of s2)).trans ⟨e3, mn⟩
    have ha3 := kt.tup ha
    refine ⟨_, rfl, tI (ordM z), tI ns, dp_tI (.of hp3), dp_tI (.of ha3), shaped_tI _, shaped_tI _, ?_⟩
    rw [eqv_tI]
    exact k H3 kt.1 kt.2 T3
end
end T21

set_option Elab.async false
set_option linter.all false
set_option maxRecDepth 100000
set_option maxHeartbeats 4000000
namespace T21
open PySem L2 EK LamX
def spLaw (K : PySem.W.Frag) (PT : Addr) : Sp := fun vs H Q _ => ∃ (a : Addr) (ns : List Int), vs = [.ref a] ∧ SqL K H a (ns.map V.int) ∧ ns.length ≤ 63 ∧ H PT = some (.tbl #[]) ∧ ∀ H', Q (.bl true) H'
abbrev NL : List Str := ["_law_script", "_law_urn_here", "_law_size", "_law_letters", "_law_text", "_law_other", "_law_due", "_law_turn"]
set_option maxRecDepth 1000000 in
theorem factP : ((txF (lets 2) 4).all fun t => permB (ordM t) && decide ((ordM t).length = 4) && decide (ordL t = 4 :: ordM t)) = true := by decide +kernel
theorem factE : numO [] 0 = 1 ∧ numO [0] 0 = 0 ∧ numO [1, 0] 2 = 3 ∧ permB [] = true ∧ permB [0] = true ∧ permB [1, 0] = true ∧ (txF (lets 2) 4).length = 81 := by decide +kernel
theorem tabs_but {T : List (Addr × Str)} {H H' : Hp} {a : Addr} (t : Tabs T H) (ha : ∀ o, H a = some o → ∃ xs, o = .lst xs) (s : ∀ b o, H b = some o → b ≠ a → H' b = some o) : Tabs T H' := fun p hp => by
  obtain ⟨ps, h1, h2, h3⟩ := t p hp
  refine ⟨ps, s _ _ h1 fun e => ?_, h2, fun pos cv hc => ?_⟩
  · obtain ⟨xs, q⟩ := ha _ (by rw [← e]; exact h1)
    cases q
  · obtain ⟨c, e1, e2⟩ := h3 pos cv hc
    refine ⟨c, e1, s _ _ e2 fun e => ?_⟩
    obtain ⟨xs, q⟩ := ha _ (by rw [← e]; exact e2)
    unfold CodeO at q
    cases q
theorem urn_same {H H' : Hp} {a : Addr} {n : Int} (h : UrnAt H a n) (s : ∀ xs, H a = some (.lst xs) → H' a = some (.lst xs)) : UrnAt H' a n := by
  obtain ⟨w0, w1, w2, h1, h2⟩ := h
  exact ⟨w0, w1, w2, s _ h1, h2⟩
theorem urn_lst {H : Hp} {a : Addr} {n : Int} (h : UrnAt H a n) : ∀ o, H a = some o → ∃ xs, o = .lst xs := fun o e => by
  obtain ⟨w0, w1, w2, h1, h2⟩ := h
  rw [h1] at e
  cases e
  exact ⟨_, rfl⟩
section
variable {P : Program} {w : World} {K : PySem.W.Frag} {mg : Str → Option Value} {base : Heap} {PT CO CN fU fP fR fX fQ fOO fH fM : Addr} {fdU fdP fdR fdX fdQ fdOO fdH fdM : FuncData}
theorem scLaw : FnScope NL ["_law_script"] (defScope sLaw) := ⟨rfl, rfl, rfl, by decide +kernel, rfl, by decide +kernel, by decide +kernel⟩
theorem ok_law {f : Addr} {fd : FuncData} (F : Fun K "law" "law" sLaw f fd) (T : TxtC K mg)
    (GU : FnOk P w K mg base CX0 1 fU fdU ["_law_cell"] spUrn) (gU : mg "_law_urn" = some (.ref fU)) (kU : PySem.W.keepIn K (.ref fU) = true) (bU : Binds K fdU ["_law_cell"] [])
    (GP : FnOk P w K mg base CX0 1 fP fdP ["_law_urn_here", "_law_many"] spPull) (gP : mg "_law_pull" = some (.ref fP)) (kP : PySem.W.keepIn K (.ref fP) = true) (bP : Binds K fdP ["_law_urn_here", "_law_many"] [])
    (GR : FnOk P w K mg base CX0 6 fR fdR ["_law_size", "_law_letters"] (spRight PT)) (gR : mg "_law_right" = some (.ref fR)) (kR : PySem.W.keepIn K (.ref fR) = true) (bR : Binds K fdR ["_law_size", "_law_letters"] [])
    (GX : FnOk P w K mg base CX0 1 fX fdX ["_law_size", "_law_letters"] spTexts) (gX : mg "_law_all_texts" = some (.ref fX)) (kX : PySem.W.keepIn K (.ref fX) = true) (bX : Binds K fdX ["_law_size", "_law_letters"] [])
    (GQ : FnOk P w K mg base CX0 2 fQ fdQ ["_law_text"] spOrder) (gQ : mg "_law_order" = some (.ref fQ)) (kQ : PySem.W.keepIn K (.ref fQ) = true) (bQ : Binds K fdQ ["_law_text"] [])
    (GOO : FnOk P w K mg base CX0 3 fOO fdOO ["text"] (spOrderOf PT)) (gOO : mg "order_of" = some (.ref fOO)) (kOO : PySem.W.keepIn K (.ref fOO) = true) (bOO : Binds K fdOO ["text"] [])
    (GH : FnOk P w K mg base (L2.CX P w) 4 fH fdH ["text", "order"] (spHas PT)) (gH : mg "has_order" = some (.ref fH)) (kH : PySem.W.keepIn K (.ref fH) = true) (bH : Binds K fdH ["text", "order"] [])
    (GM : FnOk P w K mg base (L2.CX P w) 5 fM fdM ["order", "letters"] (spOrdN CO CN)) (gM : mg "orders_number" = some (.ref fM)) (kM : PySem.W.keepIn K (.ref fM) = true) (bM : Binds K fdM ["order", "letters"] []) :
    FnOk P w K mg base CX0 7 f fd ["_law_script"] (spLaw K PT) := by
  refine F.ok scLaw (fun vs H Q E h => ?_) (fun cdv A outer s H vs Q E hr h => ?_)
  · obtain ⟨a, ns, rfl, _⟩ := h
    rfl
  · obtain ⟨a, ns, rfl, hS, hlen, hPT, k⟩ := h
    have nd := scLaw.nd
    have hu : (A.deeper (PyProof.Rows.envOfC "law" (defScope sLaw) s.heap.objs.size f cdv)).units + 64 < cLine := hr.units
    have hz : sizeLine = 2 ^ 24 := sizeLine_eq
    have hr1 : Room 1 _ := hr.mono (by decide)
    have hr2 : Room 2 _ := hr.mono (by decide)
    have hr3 : Room 3 _ := hr.mono (by decide)
    have hr4 : Room 4 _ := hr.mono (by decide)
    have hr5 : Room 5 _ := hr.mono (by decide)
    have hr6 : Room 6 _ := hr.mono (by decide)
    refine ⟨_, (pss_cons (ps_set (i := 1) nd rfl (Or.inr rfl) (pe_call GU hr1 rfl gU kU bU .nil pass0 (pa_cons (pe_ix ix_list (pe_op op_catS (pv 0) (pe_lst (pa_cons pe_int pa_nil))) pe_int (fun _ _ => rfl)) pa_nil)))
      (pss_cons (ps_par (i := 2) (j := 3) (by rfl) nd rfl rfl (by decide) rfl rfl (pa_cons (pe_call GP hr1 rfl gP kP bP .nil pass0 (pa_cons (pv 1) (pa_cons pe_int pa_nil))) (pa_cons (pe_ix ix_list (pe_lst (pa_cons pe_str (pa_cons pe_str (pa_cons pe_str pa_nil)))) (pe_call GP hr1 rfl gP kP bP .nil pass0 (pa_cons (pv 1) (pa_cons pe_int pa_nil))) (fun _ _ => rfl)) pa_nil)) (by rfl))
      (pss_cons (ps_if (PW.pt (pw_or (pt_not (pt_val (pe_call GR hr6 rfl gR kR bR .nil pass0 (pa_cons (pv 2) (pa_cons (pv 3) pa_nil))))) (pw_or (pt_not (pt_val (pe_call GR hr6 rfl gR kR bR .nil pass0 (pa_cons pe_int (pa_cons pe_str pa_nil))))) (pw_or1 (pt_not (pt_val (pe_call GR hr6 rfl gR kR bR .nil pass0 (pa_cons pe_int (pa_cons pe_str pa_nil))))))))) (pss_one (ps_ret pe_bl)) pss_nil)
      (pss_cons (ps_asg (pe_lc (own := [("_law_turn", 7)]) (g := gName 7) (tt := tYes) rfl nd (pi_range1 (by rfl) T.range (pa_cons pe_int pa_nil)) (blkOk_by (N := NL) (sc := defScope sLaw) (by decide +kernel)) (fun _ _ _ _ _ => (pg_name (i := 7) nd rfl (Or.inl rfl))) (fun _ _ _ _ _ => pts_nil) (fun _ _ _ _ _ => (pe_ix (r := rIxL K) ix_list (pe_call GX hr1 rfl gX kX bX .nil pass0 (pa_cons pe_int (pa_cons pe_str pa_nil))) (pe_call GP hr1 rfl gP kP bP .nil pass0 (pa_cons (pv 1) (pa_cons pe_int pa_nil))) (fun _ _ => rfl)))) (pg_unl rfl (pgs_cons (pg_name (i := 4) nd rfl (Or.inl rfl)) (pgs_cons (pg_name (i := 5) nd rfl (Or.inl rfl)) pgs_nil)) rfl))
      (pss_cons (ps_set (i := 6) nd rfl (Or.inl rfl) (pe_cmpR (op_eqD hu) (pe_call GQ hr2 rfl gQ kQ bQ .nil pass0 (pa_cons (pv 4) pa_nil)) (pe_call GQ hr2 rfl gQ kQ bQ .nil pass0 (pa_cons (pv 5) pa_nil)) (nomark _)))
      (pss_cons (ps_if (pt_cmpR op_ne (pe_call GH hr4 rfl gH kH bH .nil passL (pa_cons (pv 4) (pa_cons (pe_call GOO hr3 rfl gOO kOO bOO .nil pass0 (pa_cons (pv 5) pa_nil)) pa_nil))) (pv 6) (nomark _)) (pss_one (ps_ret pe_bl)) pss_nil)
      (pss_one (ps_ret (pe_and (pe_cmpR op_eq (pe_call GM hr5 rfl gM kM bM .nil passL (pa_cons (pe_tup pa_nil) (pa_cons pe_int pa_nil))) pe_int (nomark _)) (pe_and (pe_cmpR op_eq (pe_call GM hr5 rfl gM kM bM .nil passL (pa_cons (pe_tup (pa_cons pe_int pa_nil)) (pa_cons pe_int pa_nil))) pe_int (nomark _)) (pe_one (pe_cmpR op_eq (pe_call GM hr5 rfl gM kM bM .nil passL (pa_cons (pe_tup (pa_cons pe_int (pa_cons pe_int pa_nil))) (pa_cons pe_int pa_nil))) pe_int (nomark _))))))))))))), ?_⟩
    have hT0 : Tabs [(PT, qOrd)] H := fun p hp => by
      rw [List.mem_singleton.mp hp]
      exact TabS.nil hPT
    refine ⟨_, rfl, (by show 1 ≤ sizeLine; decide), fun p1 z1 => ?_⟩
    obtain ⟨H1, e1, S1, A1⟩ := alloc (o := .lst [.int 0]) z1
    rw [e1]
    refine ⟨a, p1, _, _, rfl, rfl, sqL_same S1 hS, .of A1, (by rw [List.length_map]; show _ + 1 ≤ _; omega), fun p2 z2 => ?_⟩
    have em : ns.map V.int ++ [V.int 0] = (ns ++ [0]).map V.int := by rw [List.map_append]; rfl
    rw [em]
    obtain ⟨H2, e2, S2, A2⟩ := alloc (o := .lst ((ns ++ [0]).map V.int)) z2
    rw [e2]
    obtain ⟨c0, hc0⟩ : ∃ c0, (ns ++ [0])[0]? = some c0 := by
      cases ns with
      | nil => exact ⟨0, rfl⟩
      | cons n r => exact ⟨n, rfl⟩
    refine ⟨p2, _, 0, .int c0, rfl, rfl, .of A2, atI_nat (j := 0) (by rw [List.getElem?_map, hc0]; rfl), c0, rfl, fun wl H3 nwl hw s3 => ?_⟩
    have hnw : PT ≠ wl := fun e => by
      have h := S2 _ _ (S1 _ _ hPT)
      rw [e, nwl] at h
      cases h
    have hPT3 := s3 _ _ (S2 _ _ (S1 _ _ hPT))
    refine ⟨_, rfl, wl, 6, 0, rfl, hw, by decide, by decide, by decide, fun d H4 d0 d1 hw4 kb4 => ?_⟩
    obtain ⟨n, rfl⟩ : ∃ n : Nat, d = n := ⟨d.toNat, by omega⟩
    refine ⟨(by show 3 ≤ sizeLine; decide), fun p5 z5 => ?_⟩
    obtain ⟨H5, e5, S5, A5⟩ := alloc (o := .lst [.str "a", .str "ab", .str "abc"]) z5
    rw [e5]
    have hw5 : UrnAt H5 wl (0 + 1) := urn_same hw4 fun xs e => S5 _ _ e
    have n5 : p5 ≠ wl := fun e => by
      obtain ⟨w0, w1, w2, h1, _⟩ := hw4
      rw [← e, z5] at h1
      cases h1
    refine ⟨_, rfl, wl, 3, _, rfl, hw5, by decide, by decide, by decide, fun e H6 g0 g1 hw6 kb6 => ?_⟩
    obtain ⟨l, rfl⟩ : ∃ l : Nat, e = l := ⟨e.toNat, by omega⟩
    have hn : n ≤ 5 := by omega
    have hl : l < 3 := by omega
    have eix : atI [V.str "a", V.str "ab", V.str "abc"] (l : Int) = some (.str (lets l)) := by
      have : l = 0 ∨ l = 1 ∨ l = 2 := by omega
      rcases this with rfl | rfl | rfl <;> rfl
    refine ⟨p5, _, _, _, rfl, rfl, .of (kb6 _ _ A5 n5), eix, ?_⟩
    have hPT6 := kb6 _ _ (S5 _ _ (kb4 _ _ hPT3 hnw)) hnw
    have t6 : Tabs [(PT, qOrd)] H6 := fun p hp => by
      rw [List.mem_singleton.mp hp]
      exact TabS.nil hPT6
    refine ⟨_, _, rfl, ?_⟩
    refine ⟨_, rfl, _, rfl, l, n, rfl, hl, hn, t6, fun H7 k7 t7 => ⟨_, rfl, ?_⟩⟩
    refine ⟨1, 4, rfl, by decide, by decide, t7, fun H8 k8 t8 => ⟨_, rfl, ?_⟩⟩
    refine ⟨2, 3, rfl, by decide, by decide, t8, fun H9 k9 t9 => ⟨_, rfl, ?_⟩⟩
    have hw9 : UrnAt H9 wl (0 + 1 + 1) := urn_same hw6 fun xs e => k9.lst (k8.lst (k7.lst e))
    refine ⟨_, rfl, by decide, by decide, fun D nD => ?_⟩
    have nDw : D ≠ wl := fun e => by
      obtain ⟨w0, w1, w2, h1, _⟩ := hw9
      rw [← e, nD] at h1
      cases h1
    have e81 := factE.2.2.2.2.2.2
    refine lc_range (lo := 0) (n := 2) (fun i H' => ∃ ts : List Str, H' D = some (.lst (ts.map V.str)) ∧ ts.length = i ∧ (∀ t ∈ ts, t ∈ txF (lets 2) 4) ∧ UrnAt H' wl (2 + (i : Nat)) ∧ Tabs [(PT, qOrd)] H') ⟨[], upd_same, rfl, (fun t ht => by cases ht), urn_same hw9 (fun xs e => by rw [upd_ne nDw.symm]; exact e), t9.ext fun b o e => by rw [upd_ne (ne_of_none e nD)]; exact e⟩ ?_ ?_
    · rintro i H10 hi ⟨ts, hD, hl2, hts, hw10, t10⟩
      refine ⟨rfl, ?_⟩
      refine ⟨2, 4, rfl, by decide, by decide, fun pt H11 s11 A11 => ?_⟩
      have hw11 : UrnAt H11 wl (2 + (i : Nat)) := urn_same hw10 fun xs e => s11 _ _ e
      refine ⟨_, rfl, wl, 81, _, rfl, hw11, by omega, by decide, by decide, fun e H12 g0 g1 hw12 kb12 => ?_⟩
      obtain ⟨j, rfl⟩ : ∃ j : Nat, e = j := ⟨e.toNat, by omega⟩
      have hj : j < (txF (lets 2) 4).length := by omega
      have npt : pt ≠ wl := fun e => by
        obtain ⟨w0, w1, w2, h1, _⟩ := hw11
        rw [e, h1] at A11
        injection A11 with A11
        injection A11 with A11
        have := congrArg List.length A11
        rw [List.length_map, e81] at this
        cases this
      have eg : (txF (lets 2) 4)[j]? = some (txF (lets 2) 4)[j] := List.getElem?_eq_getElem hj
      have t11 : Tabs [(PT, qOrd)] H11 := t10.ext s11
      have t12 : Tabs [(PT, qOrd)] H12 := tabs_but t11 (urn_lst hw11) kb12
      have hD12 := kb12 _ _ (s11 _ _ hD) nDw
      refine ⟨pt, _, _, .str (txF (lets 2) 4)[j], rfl, rfl, .of (kb12 _ _ A11 npt), atI_nat (by rw [List.getElem?_map, eg]; rfl), ?_⟩
      refine ⟨_, hD12, by rw [List.length_map]; omega, ts ++ [(txF (lets 2) 4)[j]], ?_, by rw [List.length_append, hl2]; rfl, fun t ht => ?_, ?_, ?_⟩
      · rw [upd_same, List.map_append]
        rfl
      · rcases List.mem_append.mp ht with h | h
        · exact hts t h
        · rw [List.mem_singleton.mp h]
          exact List.getElem_mem _
      · rw [show (2 : Int) + ((i + 1 : Nat) : Int) = 2 + (i : Nat) + 1 by omega]
        exact urn_same hw12 fun xs e => by rw [upd_ne nDw.symm]; exact e
      · exact tabs_but t12 (a := D) (fun o e => by rw [hD12] at e; cases e; exact ⟨_, rfl⟩) fun b o e n => by rw [upd_ne n]; exact e
    rintro H10 ⟨ts, hD, hl2, hts, hw10, t10⟩
    obtain ⟨t, u, rfl⟩ : ∃ t u, ts = [t, u] := by
      match ts, hl2 with
      | [t, u], _ => exact ⟨t, u, rfl⟩
    have ht := hts t (by simp)
    have hu' := hts u (by simp)
    have oT := okT (i := 2) (by decide) (show 4 ≤ 5 by decide) ht
    have oU := okT (i := 2) (by decide) (show 4 ≤ 5 by decide) hu'
    have fact : ∀ z ∈ txF (lets 2) 4, permB (ordM z) = true ∧ (ordM z).length = 4 ∧ ordL z = 4 :: ordM z := fun z hz => by
      have h := List.all_eq_true.mp factP z hz
      rw [Bool.and_eq_true, Bool.and_eq_true] at h
      exact ⟨h.1.1, of_decide_eq_true h.1.2, of_decide_eq_true h.2⟩
    obtain ⟨fT1, fT2, fT3⟩ := fact t ht
    obtain ⟨fU1, fU2, fU3⟩ := fact u hu'
    have szT : t.cps.size ≤ 1000 := by rw [← Array.length_toList, oT.len]; decide
    have szU : u.cps.size ≤ 1000 := by rw [← Array.length_toList, oU.len]; decide
    refine ⟨D, _, rfl, .of hD, rfl, _, _, rfl, _, _, rfl, rfl, ?_⟩
    refine ⟨_, rfl, t, rfl, by rw [oT.len]; decide, fun p11 H11 s11 A11 => ?_⟩
    refine ⟨_, rfl, u, rfl, by rw [oU.len]; decide, fun p12 H12 s12 A12 => ?_⟩
    refine ⟨lI _, lI _, dp_lI (.of (s12 _ _ A11)), dp_lI (.of A12), shaped_lI _, shaped_lI _, ?_⟩
    rw [eqv_lI]
    have t12 : Tabs [(PT, qOrd)] H12 := t10.ext fun b o e => s12 _ _ (s11 _ _ e)
    refine ⟨_, rfl, _, rfl, u, rfl, szU, oU.isT, t12, fun p13 H13 e13 mn13 t13 A13 => ?_⟩
    dsimp only [tNil]
    refine ⟨t, p13, ordM u, rfl, szT, oT.isT, A13, fU1, by rw [fU2]; decide, t13, fun H14 e14 mn14 t14 => ?_⟩
    have edue : decide (ordM t = ordM u) = decide (ordL t = ordL u) := by
      rw [fT3, fU3]
      by_cases h : ordM t = ordM u
      · rw [decide_eq_true h, decide_eq_true (by rw [h])]
      · rw [decide_eq_false h, decide_eq_false (fun z => h (by injection z))]
    refine ⟨_, rfl, rfl, _, rfl, iteNS (by rw [edue]) ?_⟩
    have same_ints : ∀ {as bs : List Int}, as.map V.int = bs.map V.int → as = bs := fun {as bs} h => by
      have := congrArg (List.map valI) h
      rw [List.map_map, List.map_map] at this
      simpa [Function.comp_def, valI] using this
    have hN : ∀ (H' : Hp) (p : Addr) (o : List Int) (m : Int) (Q' : VK) (E' : XK), 0 ≤ m → m ≤ 26 → permB o = true → o.length ≤ 1000 → H' p = some (.tup (o.map V.int)) → (∀ H'', Same H' H'' → Q' (.int (numO o m)) H'') → spOrdN CO CN [.ref p, .int m] H' Q' E' := fun H' p o m Q' E' m0 m1 ho hl hp kq =>
      ⟨.ref p, .int m, true, rfl, isO_of hp ho hl, .int _, fun z => (by cases z), fun _ z => absurd z (by show ¬ (decide ((0 : Int) ≤ m) && decide (m ≤ 26)) = false; rw [decide_eq_true m0, decide_eq_true m1]; decide), fun _ a' ns' l' ea ha' el h0 h1 H13 s13 => by
        cases ea
        cases el
        rw [hp] at ha'
        injection ha' with ha'
        injection ha' with ha'
        rw [← same_ints ha']
        exact kq H13 s13⟩
    obtain ⟨q1, q2, q3, q4, q5, q6, _⟩ := factE
    refine ⟨(by show 0 ≤ sizeLine; decide), fun p15 z15 => ?_⟩
    obtain ⟨H15, e15, S15, A15⟩ := alloc (o := .tup []) z15
    rw [e15]
    dsimp only [tCons, tC, tNil, List.append_nil]
    refine hN _ _ [] 0 _ _ (by decide) (by decide) q4 (by decide) A15 fun H16 s16 => ?_
    refine ⟨rfl, _, rfl, ?_⟩
    rw [q1, decide_eq_true rfl]
    refine ⟨(by show 1 ≤ sizeLine; decide), fun p17 z17 => ?_⟩
    obtain ⟨H17, e17, S17, A17⟩ := alloc (o := .tup [.int 0]) z17
    rw [e17]
    dsimp only [tCons, tC, tNil, List.append_nil]
    refine hN _ _ [0] 0 _ _ (by decide) (by decide) q5 (by decide) A17 fun H18 s18 => ?_
    refine ⟨rfl, _, rfl, ?_⟩
    rw [q2, decide_eq_true rfl]
    refine ⟨(by show 2 ≤ sizeLine; decide), fun p19 z19 => ?_⟩
    obtain ⟨H19, e19, S19, A19⟩ := alloc (o := .tup [.int 1, .int 0]) z19
    rw [e19]
    dsimp only [tCons, tC, tNil, List.append_nil]
    refine hN _ _ [1, 0] 2 _ _ (by decide) (by decide) q6 (by decide) A19 fun H20 s20 => ?_
    refine ⟨rfl, ?_⟩
    rw [q3, decide_eq_true rfl]
    exact k H20
end
end T21

set_option Elab.async false
set_option linter.all false
set_option maxRecDepth 100000
set_option maxHeartbeats 4000000
/-! ErrEnd: an error class's facts, from what the top has written. -/
namespace EK
open PySem PySem.W L2
def errB (K : Frag) (C fI : Addr) (f : Str) : Bool :=
  xfB K C && (decide (findIn K (.ref C) "__setattr__" = some (some (.builtin "object.__setattr__"))) && (decide (findIn K (.ref C) f = some none) && (decide (typeIn K (.ref fI) = some (.type "function")) && (keepIn K (.ref C) &&
  (decide (typeIn K (.ref C) = some (.type "type")) && (decide (exmOne K (.ref C) (.ref C) = some true) && (decide (subIn K (.ref C) (.type "ValueError") = some true) && (decide (ks_superIn K C C "__init__" = some (some (.builtin "ValueError.__init__"))) &&
  (decide (mroIn K C (.ref C) = some true) && (decide (findIn K (.ref C) "__class__" = some (some (.builtin "object.__class__"))) && decide (mroIn K C (.type "object") = some true)))))))))))
theorem and2 {a b : Bool} (h : (a && b) = true) : a = true ∧ b = true := Bool.and_eq_true_iff.mp h
theorem err_mk {P : Program} {K : Frag} {h : Heap} {mg : Str → Option Value} {x f : Str} {C fI N cda cc : Addr} (X : K.In h) (G : h.Ns mainGlobals mg)
    {nm q qn msg file : Str} {bs bm : List Value} {sn : List Str} {sub : List Value} {ab : Bool} {col : Option Bool} {dd od an cdd cld : Option Addr} {m0 m1 m2 m3 m5 : Option Value} {oc doc pm ct ccl cl : Value} {osl ccs csl : Array (Option Value)} {vs : Array Value} {tf : Tok}
    {p1 p2 a1 a2 a3 a4 a5 a6 b1 b2 b3 b4 : Pos}
    (aC : nsIn K mainGlobals x = some (some (.ref C))) (xL : K.lookup C = some (excClassObj nm q C N bs bm true sn sub ab col dd m0 m1 m2 m3 m5 "ValueError.__new__")) (rv : HandSPX.refsVE bm = true)
    (iC : findIn K (.ref C) "__init__" = some (some (.ref fI)))
    (l1 : K.lookup fI = some ⟨oc, od, .func (ksFn "__init__" qn (eArgs f p1 p2) (eBody f msg a1 a2 a3 a4 a5 a6 b1 b2 b3 b4) (eScope f) .none .none doc pm an (.ref cda) ct cc), osl⟩) (c1 : codeIn K (.ref cda) qn = true)
    (bd : ∀ u v : Value, bindArgs (ksFn "__init__" qn (eArgs f p1 p2) (eBody f msg a1 a2 a3 a4 a5 a6 b1 b2 b3 b4) (eScope f) .none .none doc pm an (.ref cda) ct cc) ⟨[u, v], []⟩ = pure [(("self" : Str), u), (f, v)])
    (sc : ∀ L : Addr, SupCall a1 a2 a3 a4 a5 msg (callEnv (ksFn "__init__" qn (eArgs f p1 p2) (eBody f msg a1 a2 a3 a4 a5 a6 b1 b2 b3 b4) (eScope f) .none .none doc pm an (.ref cda) ct cc) L fI))
    (cd : K.lookup cda = some ⟨ccl, cdd, .fields vs, ccs⟩) (vf : vs[2]? = some (.str file tf)) (pf : ((P.main.file : Str) == file) = true) (cL : K.lookup cc = some ⟨cl, cld, .cell (some (.ref C)), csl⟩)
    (eB : errB K C fI f = true) (ho : nsIn K cStatics "thirdparty.any" = some none) (su : nsIn K mainGlobals "super" = some none) (fok : f ≠ "self" ∧ f ≠ "__class__" ∧ f ≠ "super" ∧ f ≠ "__debug__") (top : (P.main.scope.names.lookup ("super" : Str)).isSome = false) :
    ErrTxt P K mg x f C fI := by
  obtain ⟨h1, eB⟩ := and2 eB
  obtain ⟨h2, eB⟩ := and2 eB
  obtain ⟨h3, eB⟩ := and2 eB
  obtain ⟨h4, eB⟩ := and2 eB
  obtain ⟨h5, eB⟩ := and2 eB
  obtain ⟨h6, eB⟩ := and2 eB
  obtain ⟨h7, eB⟩ := and2 eB
  obtain ⟨h8, eB⟩ := and2 eB
  obtain ⟨h9, eB⟩ := and2 eB
  obtain ⟨h10, eB⟩ := and2 eB
  have T := xfB_ok h1
  exact { gC := mg_of X G aC, cls := ⟨nm, q, N, bs, bm, sn, sub, ab, col, dd, m0, m1, m2, m3, m5, xL, rv⟩, sa := of_decide_eq_true h2, ga := T.ga, gg := T.gg, noN := of_decide_eq_true h3, iC := iC, tC := of_decide_eq_true h4, kC := h5, exC := T.exC,
          tyC := of_decide_eq_true h6, hdC := T.hdC, te := of_decide_eq_true h7, hB := of_decide_eq_true h8, si := of_decide_eq_true h9, ho := ho, su := mg_none_of X G su, mC := of_decide_eq_true h10, fok := fok, top := top,
          fn := ⟨oc, od, qn, msg, doc, pm, an, cda, cc, ct, osl, p1, p2, a1, a2, a3, a4, a5, a6, b1, b2, b3, b4, l1, c1, bd, sc, ⟨ccl, cdd, ccs, vs, file, tf, cd, vf, pf⟩, ⟨cl, cld, csl, cL⟩⟩ }
theorem excC_of {K : Frag} {C fI : Addr} {f : Str} (eB : errB K C fI f = true) (hn : specialIn K (.builtin "object.__class__") "__get__" = some (some (.builtin "getset_descriptor.__get__"))) (ht : takesIn K (.builtin "object.__class__") = some true) : ExcC K C := by
  obtain ⟨h1, eB⟩ := and2 eB
  obtain ⟨h2, eB⟩ := and2 eB
  obtain ⟨h3, eB⟩ := and2 eB
  obtain ⟨h4, eB⟩ := and2 eB
  obtain ⟨h5, eB⟩ := and2 eB
  obtain ⟨h6, eB⟩ := and2 eB
  obtain ⟨h7, eB⟩ := and2 eB
  obtain ⟨h8, eB⟩ := and2 eB
  obtain ⟨h9, eB⟩ := and2 eB
  obtain ⟨h10, eB⟩ := and2 eB
  obtain ⟨h11, h12⟩ := and2 eB
  have T := xfB_ok h1
  exact ⟨T.ga, T.gg, T.exC, T.hdC, of_decide_eq_true h11, hn, ht, of_decide_eq_true h12⟩
/-- which class is which, told apart -/
def kindsB (K : Frag) (E : Addr) (Cs : List Addr) : Bool :=
  (Cs.zipIdx.all fun p => Cs.zipIdx.all fun q => decide (kitOne K (.ref p.1) (.ref q.1) = some (decide (p.2 = q.2)))) && (Cs.all fun C => decide (kitOne K (.ref C) (.ref E) = some true) && decide (kitOne K (.ref C) (.type "ValueError") = some true))
theorem kinds_kt {K : Frag} {E : Addr} {Cs : List Addr} (h : kindsB K E Cs = true) (i j : Nat) (C D : Addr) (h1 : Cs[i]? = some C) (h2 : Cs[j]? = some D) : kitOne K (.ref C) (.ref D) = some (decide (i = j)) := by
  obtain ⟨h, _⟩ := and2 h
  have q := List.all_eq_true.mp h (C, i) (List.mk_mem_zipIdx_iff_getElem?.mpr h1)
  have q := List.all_eq_true.mp q (D, j) (List.mk_mem_zipIdx_iff_getElem?.mpr h2)
  exact of_decide_eq_true q
theorem kinds_ke {K : Frag} {E : Addr} {Cs : List Addr} (h : kindsB K E Cs = true) (C : Addr) (hC : C ∈ Cs) : kitOne K (.ref C) (.ref E) = some true ∧ kitOne K (.ref C) (.type "ValueError") = some true := by
  obtain ⟨_, h⟩ := and2 h
  obtain ⟨a, b⟩ := and2 (List.all_eq_true.mp h C hC)
  exact ⟨of_decide_eq_true a, of_decide_eq_true b⟩
end EK

set_option Elab.async false
set_option linter.all false
set_option maxRecDepth 100000
set_option maxHeartbeats 4000000
namespace T21
open PySem L2 EK LamX
theorem all_mk {l : PySem.W.OpenLaw} {w : World} {K : PySem.W.Frag} {h : Heap} {mg : Str → Option Value} {fa C1 i1 C2 i2 : Addr} {t1 : Tok} (X : K.In h) (G : h.Ns mainGlobals mg) (hfa : mg "law" = some (.ref fa))
    {fTX : Addr} {odTX anTX : Option Addr} {slTX : Array (Option Value)} {ocTX kVTX dcTX pmTX cdTX ctTX : Value}
    {fN : Addr} {odN anN : Option Addr} {slN : Array (Option Value)} {ocN kVN dcN pmN cdN ctN : Value}
    {fB : Addr} {odB anB : Option Addr} {slB : Array (Option Value)} {ocB kVB dcB pmB cdB ctB : Value}
    {fO : Addr} {odO anO : Option Addr} {slO : Array (Option Value)} {ocO kVO dcO pmO cdO ctO : Value}
    {fCT : Addr} {odCT anCT : Option Addr} {slCT : Array (Option Value)} {ocCT kVCT dcCT pmCT cdCT ctCT : Value}
    {fCB : Addr} {odCB anCB : Option Addr} {slCB : Array (Option Value)} {ocCB kVCB dcCB pmCB cdCB ctCB : Value}
    {fCO : Addr} {odCO anCO : Option Addr} {slCO : Array (Option Value)} {ocCO kVCO dcCO pmCO cdCO ctCO : Value}
    {fOO : Addr} {odOO anOO : Option Addr} {slOO : Array (Option Value)} {ocOO kVOO dcOO pmOO  ctOO : Value} {cOOa POOa : Addr}
    {fD : Addr} {odD anD : Option Addr} {slD : Array (Option Value)} {ocD kVD dcD pmD cdD ctD : Value}
    {fT : Addr} {odT anT : Option Addr} {slT : Array (Option Value)} {ocT kVT dcT pmT cdT ctT : Value}
    {fM : Addr} {odM anM : Option Addr} {slM : Array (Option Value)} {ocM kVM dcM pmM cdM ctM : Value}
    {fH : Addr} {odH anH : Option Addr} {slH : Array (Option Value)} {ocH kVH dcH pmH cdH ctH : Value}
    {fK : Addr} {odK anK : Option Addr} {slK : Array (Option Value)} {ocK kVK dcK pmK cdK ctK : Value}
    {fU : Addr} {odU anU : Option Addr} {slU : Array (Option Value)} {ocU kVU dcU pmU cdU ctU : Value}
    {fP : Addr} {odP anP : Option Addr} {slP : Array (Option Value)} {ocP kVP dcP pmP cdP ctP : Value}
    {fL : Addr} {odL anL : Option Addr} {slL : Array (Option Value)} {ocL kVL dcL pmL cdL ctL : Value}
    {fQ : Addr} {odQ anQ : Option Addr} {slQ : Array (Option Value)} {ocQ kVQ dcQ pmQ cdQ ctQ : Value}
    {fX : Addr} {odX anX : Option Addr} {slX : Array (Option Value)} {ocX kVX dcX pmX cdX ctX : Value}
    {fA : Addr} {odA anA : Option Addr} {slA : Array (Option Value)} {ocA kVA dcA pmA cdA ctA : Value}
    {fG : Addr} {odG anG : Option Addr} {slG : Array (Option Value)} {ocG kVG dcG pmG cdG ctG : Value}
    {fR : Addr} {odR anR : Option Addr} {slR : Array (Option Value)} {ocR kVR dcR pmR cdR ctR : Value}
    {fZ : Addr} {odZ anZ : Option Addr} {slZ : Array (Option Value)} {ocZ kVZ dcZ pmZ cdZ ctZ : Value}
    (T1 : ErrTxt l.prog K mg "NoNumber" "number" C1 i1) (T2 : ErrTxt l.prog K mg "NoOrder" "order" C2 i2) 
    (aTX : PySem.W.nsIn K mainGlobals "is_text" = some (some (.ref fTX))) (lTX : K.lookup fTX = some ⟨ocTX, odTX, .func (PySem.W.fnOf "is_text" "is_text" (defArgs sIsText) (defBody sIsText) (defScope sIsText) .none kVTX dcTX pmTX anTX cdTX ctTX), slTX⟩) (cTX : PySem.W.codeIn K cdTX "is_text" = true) (kTX : PySem.W.keepIn K (.ref fTX) = true)
    (aN : PySem.W.nsIn K mainGlobals "is_number" = some (some (.ref fN))) (lN : K.lookup fN = some ⟨ocN, odN, .func (PySem.W.fnOf "is_number" "is_number" (defArgs sIsNum) (defBody sIsNum) (defScope sIsNum) .none kVN dcN pmN anN cdN ctN), slN⟩) (cN : PySem.W.codeIn K cdN "is_number" = true) (kN : PySem.W.keepIn K (.ref fN) = true)
    (aB : PySem.W.nsIn K mainGlobals "is_number_between" = some (some (.ref fB))) (lB : K.lookup fB = some ⟨ocB, odB, .func (PySem.W.fnOf "is_number_between" "is_number_between" (defArgs sIsNB) (defBody sIsNB) (defScope sIsNB) .none kVB dcB pmB anB cdB ctB), slB⟩) (cB : PySem.W.codeIn K cdB "is_number_between" = true) (kB : PySem.W.keepIn K (.ref fB) = true)
    (aO : PySem.W.nsIn K mainGlobals "is_order" = some (some (.ref fO))) (lO : K.lookup fO = some ⟨ocO, odO, .func (PySem.W.fnOf "is_order" "is_order" (defArgs sIsOrd) (defBody sIsOrd) (defScope sIsOrd) .none kVO dcO pmO anO cdO ctO), slO⟩) (cO : PySem.W.codeIn K cdO "is_order" = true) (kO : PySem.W.keepIn K (.ref fO) = true)
    (aCT : PySem.W.nsIn K mainGlobals "check_text" = some (some (.ref fCT))) (lCT : K.lookup fCT = some ⟨ocCT, odCT, .func (PySem.W.fnOf "check_text" "check_text" (defArgs sCkText) (defBody sCkText) (defScope sCkText) .none kVCT dcCT pmCT anCT cdCT ctCT), slCT⟩) (cCT : PySem.W.codeIn K cdCT "check_text" = true) (kCT : PySem.W.keepIn K (.ref fCT) = true)
    (aCB : PySem.W.nsIn K mainGlobals "check_number_between" = some (some (.ref fCB))) (lCB : K.lookup fCB = some ⟨ocCB, odCB, .func (PySem.W.fnOf "check_number_between" "check_number_between" (defArgs sCkNB) (defBody sCkNB) (defScope sCkNB) .none kVCB dcCB pmCB anCB cdCB ctCB), slCB⟩) (cCB : PySem.W.codeIn K cdCB "check_number_between" = true) (kCB : PySem.W.keepIn K (.ref fCB) = true)
    (aCO : PySem.W.nsIn K mainGlobals "check_order" = some (some (.ref fCO))) (lCO : K.lookup fCO = some ⟨ocCO, odCO, .func (PySem.W.fnOf "check_order" "check_order" (defArgs sCkOrd) (defBody sCkOrd) (defScope sCkOrd) .none kVCO dcCO pmCO anCO cdCO ctCO), slCO⟩) (cCO : PySem.W.codeIn K cdCO "check_order" = true) (kCO : PySem.W.keepIn K (.ref fCO) = true)
    (aOO : PySem.W.nsIn K mainGlobals "order_of" = some (some (.ref fOO))) (lOO : K.lookup fOO = some ⟨ocOO, odOO, .func (PySem.W.fnOf "order_of" "order_of" (defArgs sOrderOf) (defBody sOrderOf) (defScope sOrderOf) .none kVOO dcOO pmOO anOO (.ref cOOa) ctOO), slOO⟩) (cOO : PySem.W.codeIn K (.ref cOOa) "order_of" = true) (kOO : PySem.W.keepIn K (.ref fOO) = true)
    (aD : PySem.W.nsIn K mainGlobals "drops" = some (some (.ref fD))) (lD : K.lookup fD = some ⟨ocD, odD, .func (PySem.W.fnOf "drops" "drops" (defArgs sDrops) (defBody sDrops) (defScope sDrops) .none kVD dcD pmD anD cdD ctD), slD⟩) (cD : PySem.W.codeIn K cdD "drops" = true) (kD : PySem.W.keepIn K (.ref fD) = true)
    (aT : PySem.W.nsIn K mainGlobals "least_text" = some (some (.ref fT))) (lT : K.lookup fT = some ⟨ocT, odT, .func (PySem.W.fnOf "least_text" "least_text" (defArgs sLeastT) (defBody sLeastT) (defScope sLeastT) .none kVT dcT pmT anT cdT ctT), slT⟩) (cT : PySem.W.codeIn K cdT "least_text" = true) (kT : PySem.W.keepIn K (.ref fT) = true)
    (aM : PySem.W.nsIn K mainGlobals "orders_number" = some (some (.ref fM))) (lM : K.lookup fM = some ⟨ocM, odM, .func (PySem.W.fnOf "orders_number" "orders_number" (defArgs sOrdN) (defBody sOrdN) (defScope sOrdN) .none kVM dcM pmM anM cdM ctM), slM⟩) (cM : PySem.W.codeIn K cdM "orders_number" = true) (kM : PySem.W.keepIn K (.ref fM) = true)
    (aH : PySem.W.nsIn K mainGlobals "has_order" = some (some (.ref fH))) (lH : K.lookup fH = some ⟨ocH, odH, .func (PySem.W.fnOf "has_order" "has_order" (defArgs sHas) (defBody sHas) (defScope sHas) .none kVH dcH pmH anH cdH ctH), slH⟩) (cH : PySem.W.codeIn K cdH "has_order" = true) (kH : PySem.W.keepIn K (.ref fH) = true)
    (aK : PySem.W.nsIn K mainGlobals "_ranks" = some (some (.ref fK))) (lK : K.lookup fK = some ⟨ocK, odK, .func (PySem.W.fnOf "_ranks" "_ranks" (defArgs sRanks) (defBody sRanks) (defScope sRanks) .none kVK dcK pmK anK cdK ctK), slK⟩) (cK : PySem.W.codeIn K cdK "_ranks" = true) (kK : PySem.W.keepIn K (.ref fK) = true)
    (aU : PySem.W.nsIn K mainGlobals "_law_urn" = some (some (.ref fU))) (lU : K.lookup fU = some ⟨ocU, odU, .func (PySem.W.fnOf "_law_urn" "_law_urn" (defArgs sUrn) (defBody sUrn) (defScope sUrn) .none kVU dcU pmU anU cdU ctU), slU⟩) (cU : PySem.W.codeIn K cdU "_law_urn" = true) (kU : PySem.W.keepIn K (.ref fU) = true)
    (aP : PySem.W.nsIn K mainGlobals "_law_pull" = some (some (.ref fP))) (lP : K.lookup fP = some ⟨ocP, odP, .func (PySem.W.fnOf "_law_pull" "_law_pull" (defArgs sPull) (defBody sPull) (defScope sPull) .none kVP dcP pmP anP cdP ctP), slP⟩) (cP : PySem.W.codeIn K cdP "_law_pull" = true) (kP : PySem.W.keepIn K (.ref fP) = true)
    (aL : PySem.W.nsIn K mainGlobals "_law_less" = some (some (.ref fL))) (lL : K.lookup fL = some ⟨ocL, odL, .func (PySem.W.fnOf "_law_less" "_law_less" (defArgs sLess) (defBody sLess) (defScope sLess) .none kVL dcL pmL anL cdL ctL), slL⟩) (cL : PySem.W.codeIn K cdL "_law_less" = true) (kL : PySem.W.keepIn K (.ref fL) = true)
    (aQ : PySem.W.nsIn K mainGlobals "_law_order" = some (some (.ref fQ))) (lQ : K.lookup fQ = some ⟨ocQ, odQ, .func (PySem.W.fnOf "_law_order" "_law_order" (defArgs sOrder) (defBody sOrder) (defScope sOrder) .none kVQ dcQ pmQ anQ cdQ ctQ), slQ⟩) (cQ : PySem.W.codeIn K cdQ "_law_order" = true) (kQ : PySem.W.keepIn K (.ref fQ) = true)
    (aX : PySem.W.nsIn K mainGlobals "_law_all_texts" = some (some (.ref fX))) (lX : K.lookup fX = some ⟨ocX, odX, .func (PySem.W.fnOf "_law_all_texts" "_law_all_texts" (defArgs sTexts) (defBody sTexts) (defScope sTexts) .none kVX dcX pmX anX cdX ctX), slX⟩) (cX : PySem.W.codeIn K cdX "_law_all_texts" = true) (kX : PySem.W.keepIn K (.ref fX) = true)
    (aA : PySem.W.nsIn K mainGlobals "_law_all_orders" = some (some (.ref fA))) (lA : K.lookup fA = some ⟨ocA, odA, .func (PySem.W.fnOf "_law_all_orders" "_law_all_orders" (defArgs sAll) (defBody sAll) (defScope sAll) .none kVA dcA pmA anA cdA ctA), slA⟩) (cA : PySem.W.codeIn K cdA "_law_all_orders" = true) (kA : PySem.W.keepIn K (.ref fA) = true)
    (aG : PySem.W.nsIn K mainGlobals "_law_grown" = some (some (.ref fG))) (lG : K.lookup fG = some ⟨ocG, odG, .func (PySem.W.fnOf "_law_grown" "_law_grown" (defArgs sGrown) (defBody sGrown) (defScope sGrown) .none kVG dcG pmG anG cdG ctG), slG⟩) (cG : PySem.W.codeIn K cdG "_law_grown" = true) (kG : PySem.W.keepIn K (.ref fG) = true)
    (aR : PySem.W.nsIn K mainGlobals "_law_right" = some (some (.ref fR))) (lR : K.lookup fR = some ⟨ocR, odR, .func (PySem.W.fnOf "_law_right" "_law_right" (defArgs sRight) (defBody sRight) (defScope sRight) .none kVR dcR pmR anR cdR ctR), slR⟩) (cR : PySem.W.codeIn K cdR "_law_right" = true) (kR : PySem.W.keepIn K (.ref fR) = true)
    (aZ : PySem.W.nsIn K mainGlobals "law" = some (some (.ref fZ))) (lZ : K.lookup fZ = some ⟨ocZ, odZ, .func (PySem.W.fnOf "law" "law" (defArgs sLaw) (defBody sLaw) (defScope sLaw) .none kVZ dcZ pmZ anZ cdZ ctZ), slZ⟩) (cZ : PySem.W.codeIn K cdZ "law" = true) (kZ : PySem.W.keepIn K (.ref fZ) = true)
    (hTabOO : h.get? POOa = some { cls := .none, data := .fields #[] }) (nTOO : K.lookup POOa = none) (hCdOO : PySem.W.codeHdIn K cOOa POOa = true)
    (y1 : PySem.W.nsIn K mainGlobals "LETTERS" = some (some (.str "abcdefghijklmnopqrstuvwxyz" t1))) (y2 : PySem.W.nsIn K mainGlobals "comb" = some (some (.builtin "math.comb")))
    (z1 : PySem.W.nsIn K mainGlobals "isinstance" = some none) (z2 : PySem.W.nsIn K mainGlobals "str" = some none) (z3 : PySem.W.nsIn K mainGlobals "int" = some none) (z4 : PySem.W.nsIn K mainGlobals "bool" = some none) (z5 : PySem.W.nsIn K mainGlobals "tuple" = some none) (z6 : PySem.W.nsIn K mainGlobals "all" = some none) (z7 : PySem.W.nsIn K mainGlobals "len" = some none) (z8 : PySem.W.nsIn K mainGlobals "list" = some none) (z9 : PySem.W.nsIn K mainGlobals "sorted" = some none) (z10 : PySem.W.nsIn K mainGlobals "range" = some none) (z11 : PySem.W.nsIn K mainGlobals "enumerate" = some none) (z12 : PySem.W.nsIn K mainGlobals "zip" = some none) (z13 : PySem.W.nsIn K mainGlobals "sum" = some none) (z14 : PySem.W.nsIn K mainGlobals "abs" = some none) : LawAtS l w K CX0 7 63 "_law_script" mg fa h := by
  have e := hfa.symm.trans (PySem.W.mg_of X G aZ)
  cases e
  have TU : TxtU K mg := ⟨PySem.W.mg_none_of X G z3, PySem.W.mg_none_of X G z14⟩
  have TC : TxtC K mg := ⟨PySem.W.mg_none_of X G z1, PySem.W.mg_none_of X G z2, PySem.W.mg_none_of X G z3, PySem.W.mg_none_of X G z4, PySem.W.mg_none_of X G z5, PySem.W.mg_none_of X G z6, PySem.W.mg_none_of X G z7, PySem.W.mg_none_of X G z8, PySem.W.mg_none_of X G z9, PySem.W.mg_none_of X G z10, PySem.W.mg_none_of X G z11, PySem.W.mg_none_of X G z12, PySem.W.mg_none_of X G z13, ⟨_, PySem.W.mg_of X G y1, ⟨_, rfl⟩⟩, PySem.W.mg_of X G y2⟩
  have FTX := fun_mk (st := sIsText) lTX cTX kTX
  have FN := fun_mk (st := sIsNum) lN cN kN
  have FB := fun_mk (st := sIsNB) lB cB kB
  have FO := fun_mk (st := sIsOrd) lO cO kO
  have FCT := fun_mk (st := sCkText) lCT cCT kCT
  have FCB := fun_mk (st := sCkNB) lCB cCB kCB
  have FCO := fun_mk (st := sCkOrd) lCO cCO kCO
  have FOO := fun_mk (st := sOrderOf) lOO cOO kOO
  have FD := fun_mk (st := sDrops) lD cD kD
  have FT := fun_mk (st := sLeastT) lT cT kT
  have FM := fun_mk (st := sOrdN) lM cM kM
  have FH := fun_mk (st := sHas) lH cH kH
  have FK := fun_mk (st := sRanks) lK cK kK
  have FU := fun_mk (st := sUrn) lU cU kU
  have FP := fun_mk (st := sPull) lP cP kP
  have FL := fun_mk (st := sLess) lL cL kL
  have FQ := fun_mk (st := sOrder) lQ cQ kQ
  have FX := fun_mk (st := sTexts) lX cX kX
  have FA := fun_mk (st := sAll) lA cA kA
  have FG := fun_mk (st := sGrown) lG cG kG
  have FR := fun_mk (st := sRight) lR cR kR
  have FZ := fun_mk (st := sLaw) lZ cZ kZ
  have bTX := FTX.binds (ps := ["value"]) fun _ _ _ _ _ _ us hl => match us, hl with | [_], _ => rfl
  have bN := FN.binds (ps := ["value", "least"]) fun _ _ _ _ _ _ us hl => match us, hl with | [_, _], _ => rfl
  have bB := FB.binds (ps := ["value", "least", "greatest"]) fun _ _ _ _ _ _ us hl => match us, hl with | [_, _, _], _ => rfl
  have bO := FO.binds (ps := ["value"]) fun _ _ _ _ _ _ us hl => match us, hl with | [_], _ => rfl
  have bCT := FCT.binds (ps := ["text"]) fun _ _ _ _ _ _ us hl => match us, hl with | [_], _ => rfl
  have bCB := FCB.binds (ps := ["number", "least", "greatest"]) fun _ _ _ _ _ _ us hl => match us, hl with | [_, _, _], _ => rfl
  have bCO := FCO.binds (ps := ["order"]) fun _ _ _ _ _ _ us hl => match us, hl with | [_], _ => rfl
  have bOO := FOO.binds (ps := ["text"]) fun _ _ _ _ _ _ us hl => match us, hl with | [_], _ => rfl
  have bD := FD.binds (ps := ["order"]) fun _ _ _ _ _ _ us hl => match us, hl with | [_], _ => rfl
  have bT := FT.binds (ps := ["order"]) fun _ _ _ _ _ _ us hl => match us, hl with | [_], _ => rfl
  have bM := FM.binds (ps := ["order", "letters"]) fun _ _ _ _ _ _ us hl => match us, hl with | [_, _], _ => rfl
  have bH := FH.binds (ps := ["text", "order"]) fun _ _ _ _ _ _ us hl => match us, hl with | [_, _], _ => rfl
  have bK := FK.binds (ps := ["order"]) fun _ _ _ _ _ _ us hl => match us, hl with | [_], _ => rfl
  have bU := FU.binds (ps := ["_law_cell"]) fun _ _ _ _ _ _ us hl => match us, hl with | [_], _ => rfl
  have bP := FP.binds (ps := ["_law_urn_here", "_law_many"]) fun _ _ _ _ _ _ us hl => match us, hl with | [_, _], _ => rfl
  have bL := FL.binds (ps := ["_law_text", "_law_one", "_law_other"]) fun _ _ _ _ _ _ us hl => match us, hl with | [_, _, _], _ => rfl
  have bQ := FQ.binds (ps := ["_law_text"]) fun _ _ _ _ _ _ us hl => match us, hl with | [_], _ => rfl
  have bX := FX.binds (ps := ["_law_size", "_law_letters"]) fun _ _ _ _ _ _ us hl => match us, hl with | [_, _], _ => rfl
  have bA := FA.binds (ps := ["_law_size"]) fun _ _ _ _ _ _ us hl => match us, hl with | [_], _ => rfl
  have bG := FG.binds (ps := ["_law_texts", "_law_order_here"]) fun _ _ _ _ _ _ us hl => match us, hl with | [_, _], _ => rfl
  have bR := FR.binds (ps := ["_law_size", "_law_letters"]) fun _ _ _ _ _ _ us hl => match us, hl with | [_, _], _ => rfl
  have gTX := PySem.W.mg_of X G aTX
  have gN := PySem.W.mg_of X G aN
  have gB := PySem.W.mg_of X G aB
  have gO := PySem.W.mg_of X G aO
  have gCT := PySem.W.mg_of X G aCT
  have gCB := PySem.W.mg_of X G aCB
  have gCO := PySem.W.mg_of X G aCO
  have gOO := PySem.W.mg_of X G aOO
  have gD := PySem.W.mg_of X G aD
  have gT := PySem.W.mg_of X G aT
  have gM := PySem.W.mg_of X G aM
  have gH := PySem.W.mg_of X G aH
  have gK := PySem.W.mg_of X G aK
  have gU := PySem.W.mg_of X G aU
  have gP := PySem.W.mg_of X G aP
  have gL := PySem.W.mg_of X G aL
  have gQ := PySem.W.mg_of X G aQ
  have gX := PySem.W.mg_of X G aX
  have gA := PySem.W.mg_of X G aA
  have gG := PySem.W.mg_of X G aG
  have gR := PySem.W.mg_of X G aR
  have gZ := PySem.W.mg_of X G aZ
  refine ⟨PySem.W.fnOf "law" "law" (defArgs sLaw) (defBody sLaw) (defScope sLaw) .none kVZ dcZ pmZ anZ cdZ ctZ, [(cOOa, POOa)], spLaw K POOa, fun p hp => ?_, fun p hp => ?_, fun p hp => ?_, fun s u => .of_eq rfl, fun H a ns hl _ hT hS => ⟨a, ns, rfl, hS, hl, hT (cOOa, POOa) List.mem_cons_self, fun _ => rfl⟩, fun base _ _ hB => ?_⟩
  · rcases List.mem_cons.mp hp with rfl | hp
    · exact hTabOO
    exact absurd hp List.not_mem_nil
  · rcases List.mem_cons.mp hp with rfl | hp
    · exact nTOO
    exact absurd hp List.not_mem_nil
  · rcases List.mem_cons.mp hp with rfl | hp
    · exact PySem.W.codeHd_of_K X hCdOO
    exact absurd hp List.not_mem_nil
  have TBOO : TabB base mg cOOa POOa := hB (cOOa, POOa) List.mem_cons_self
  have GTX : FnOk l.prog w K mg base CX0 1 fTX _ ["value"] (spText) := ok_text FTX TC
  have GN : FnOk l.prog w K mg base CX0 1 fN _ ["value", "least"] (spNumber) := ok_isNumber FN TC
  have GB : FnOk l.prog w K mg base CX0 2 fB _ ["value", "least", "greatest"] (spNB) := ok_isNB FB GN gN kN bN
  have GO : FnOk l.prog w K mg base CX0 2 fO _ ["value"] (spIsOrd) := ok_isOrd FO TC GN gN kN bN
  have GCT : FnOk l.prog w K mg base CX0 2 fCT _ ["text"] (spCkText) := ok_ckText FCT GTX gTX kTX bTX
  have GCB : FnOk l.prog w K mg base (L2.CX l.prog w) 3 fCB _ ["number", "least", "greatest"] (spCkNB C1) := ok_ckNB FCB T1 GB gB kB bB
  have GCO : FnOk l.prog w K mg base (L2.CX l.prog w) 3 fCO _ ["order"] (spCkOrd C2) := ok_ckOrd FCO T2 GO gO kO bO
  have GK : FnOk l.prog w K mg base CX0 1 fK _ ["order"] (spRanks) := ok_ranks FK TC
  have GOO : FnOk l.prog w K mg base CX0 3 fOO _ ["text"] (spOrderOf POOa) := ok_orderOf lOO cOO TBOO TC GCT gCT kCT bCT
  have GD : FnOk l.prog w K mg base (L2.CX l.prog w) 4 fD _ ["order"] (spDrops C2) := ok_drops FD TC GCO gCO kCO bCO GK gK kK bK
  have GM : FnOk l.prog w K mg base (L2.CX l.prog w) 5 fM _ ["order", "letters"] (spOrdN C2 C1) := ok_ordN FM TC GCO gCO kCO bCO GCB gCB kCB bCB GD gD kD bD
  have GT : FnOk l.prog w K mg base (L2.CX l.prog w) 5 fT _ ["order"] (spLeastT C2) := ok_leastT FT TC GCO gCO kCO bCO GD gD kD bD
  have GH : FnOk l.prog w K mg base (L2.CX l.prog w) 4 fH _ ["text", "order"] (spHas POOa) := ok_has FH TC GCT gCT kCT bCT GCO gCO kCO bCO GOO gOO kOO bOO
  have GU : FnOk l.prog w K mg base CX0 1 fU _ ["_law_cell"] (spUrn) := ok_urn FU TU
  have GP : FnOk l.prog w K mg base CX0 1 fP _ ["_law_urn_here", "_law_many"] (spPull) := ok_pull FP TU
  have GL : FnOk l.prog w K mg base CX0 1 fL _ ["_law_text", "_law_one", "_law_other"] (spLess) := ok_less FL TC
  have GQ : FnOk l.prog w K mg base CX0 2 fQ _ ["_law_text"] (spOrder) := ok_order FQ TC GL gL kL bL
  have GX : FnOk l.prog w K mg base CX0 1 fX _ ["_law_size", "_law_letters"] (spTexts) := ok_texts FX TC
  have GA : FnOk l.prog w K mg base CX0 1 fA _ ["_law_size"] (spAll) := ok_all FA TC
  have GG : FnOk l.prog w K mg base CX0 1 fG _ ["_law_texts", "_law_order_here"] (spGrown) := ok_grown FG TC
  have GR : FnOk l.prog w K mg base CX0 6 fR _ ["_law_size", "_law_letters"] (spRight POOa) := ok_right FR TC GX gX kX bX GQ gQ kQ bQ GOO gOO kOO bOO GA gA kA bA GM gM kM bM GT gT kT bT GD gD kD bD GG gG kG bG
  exact ok_law FZ TC GU gU kU bU GP gP kP bP GR gR kR bR GX gX kX bX GQ gQ kQ bQ GOO gOO kOO bOO GH gH kH bH GM gM kM bM
end T21
open PySem PySem.W PyProof.Rows
set_option maxRecDepth 100000 in
set_option maxHeartbeats 0 in
theorem PySem.Challenge.cw_turnindex_k21_whole_orders_of_all_texts_holds : PySem.Challenge.rw_turnindex_k21_whole_orders_of_all_texts.Holds := by
  w_on; o_law; k_head; (case hw => w_witness2)
  k_fill
  refine LamX.walk_ofTs (l := PySem.Challenge.rw_turnindex_k21_whole_orders_of_all_texts) (n := 63) (k := 7) (x := "_law_script") (CX := fun _ => L2.CX0) rfl (by decide) rfl ⟨rfl, by decide, by decide⟩ (fun w h Y => PySem.W.km_in_of Y) ?F (fun _ _ _ _ _ z => z)
  case F =>
    intro w mg fa h Y KX G hmg
    refine' T21.all_mk KX G hmg (EK.err_mk (x := "NoNumber") (f := "number") KX G ?aC1 ?xL1 ?rv1 ?iC1 ?l11 ?c11 ?bd1 ?sc1 ?cd1 ?vf1 ?pf1 ?cL1 ?eB1 ?ho1 ?su1 ?fok1 ?top1) (EK.err_mk (x := "NoOrder") (f := "order") KX G ?aC2 ?xL2 ?rv2 ?iC2 ?l12 ?c12 ?bd2 ?sc2 ?cd2 ?vf2 ?pf2 ?cL2 ?eB2 ?ho2 ?su2 ?fok2 ?top2)  ?paTX ?plTX ?pcTX ?pkTX ?paN ?plN ?pcN ?pkN ?paB ?plB ?pcB ?pkB ?paO ?plO ?pcO ?pkO ?paCT ?plCT ?pcCT ?pkCT ?paCB ?plCB ?pcCB ?pkCB ?paCO ?plCO ?pcCO ?pkCO ?paOO ?plOO ?pcOO ?pkOO ?paD ?plD ?pcD ?pkD ?paT ?plT ?pcT ?pkT ?paM ?plM ?pcM ?pkM ?paH ?plH ?pcH ?pkH ?paK ?plK ?pcK ?pkK ?paU ?plU ?pcU ?pkU ?paP ?plP ?pcP ?pkP ?paL ?plL ?pcL ?pkL ?paQ ?plQ ?pcQ ?pkQ ?paX ?plX ?pcX ?pkX ?paA ?plA ?pcA ?pkA ?paG ?plG ?pcG ?pkG ?paR ?plR ?pcR ?pkR ?paZ ?plZ ?pcZ ?pkZ (PySem.W.km_tabs_of Y _ List.mem_cons_self) ?nTOO ?hCdOO ?y1 ?y2 ?z1 ?z2 ?z3 ?z4 ?z5 ?z6 ?z7 ?z8 ?z9 ?z10 ?z11 ?z12 ?z13 ?z14
    (case aC1 => k_is); (case xL1 => k_is); (case rv1 => kernel_rfl); (case iC1 => k_is); (case l11 => k_is); (case c11 => k_is); (case bd1 => exact fun _ _ => rfl); (case sc1 => exact fun L => ⟨_, rfl⟩); (case cd1 => k_is); (case vf1 => rfl); (case pf1 => kernel_rfl); (case cL1 => k_is); (case eB1 => kernel_rfl); (case ho1 => k_is); (case su1 => k_is); (case fok1 => exact ⟨by decide +kernel, by decide +kernel, by decide +kernel, by decide +kernel⟩); (case top1 => kernel_rfl)
    (case aC2 => k_is); (case xL2 => k_is); (case rv2 => kernel_rfl); (case iC2 => k_is); (case l12 => k_is); (case c12 => k_is); (case bd2 => exact fun _ _ => rfl); (case sc2 => exact fun L => ⟨_, rfl⟩); (case cd2 => k_is); (case vf2 => rfl); (case pf2 => kernel_rfl); (case cL2 => k_is); (case eB2 => kernel_rfl); (case ho2 => k_is); (case su2 => k_is); (case fok2 => exact ⟨by decide +kernel, by decide +kernel, by decide +kernel, by decide +kernel⟩); (case top2 => kernel_rfl)
    (case paTX => k_is); (case plTX => k_is); (case pcTX => k_is); (case pkTX => k_is)
    (case paN => k_is); (case plN => k_is); (case pcN => k_is); (case pkN => k_is)
    (case paB => k_is); (case plB => k_is); (case pcB => k_is); (case pkB => k_is)
    (case paO => k_is); (case plO => k_is); (case pcO => k_is); (case pkO => k_is)
    (case paCT => k_is); (case plCT => k_is); (case pcCT => k_is); (case pkCT => k_is)
    (case paCB => k_is); (case plCB => k_is); (case pcCB => k_is); (case pkCB => k_is)
    (case paCO => k_is); (case plCO => k_is); (case pcCO => k_is); (case pkCO => k_is)
    (case paOO => k_is); (case plOO => k_is); (case pcOO => k_is); (case pkOO => k_is)
    (case paD => k_is); (case plD => k_is); (case pcD => k_is); (case pkD => k_is)
    (case paT => k_is); (case plT => k_is); (case pcT => k_is); (case pkT => k_is)
    (case paM => k_is); (case plM => k_is); (case pcM => k_is); (case pkM => k_is)
    (case paH => k_is); (case plH => k_is); (case pcH => k_is); (case pkH => k_is)
    (case paK => k_is); (case plK => k_is); (case pcK => k_is); (case pkK => k_is)
    (case paU => k_is); (case plU => k_is); (case pcU => k_is); (case pkU => k_is)
    (case paP => k_is); (case plP => k_is); (case pcP => k_is); (case pkP => k_is)
    (case paL => k_is); (case plL => k_is); (case pcL => k_is); (case pkL => k_is)
    (case paQ => k_is); (case plQ => k_is); (case pcQ => k_is); (case pkQ => k_is)
    (case paX => k_is); (case plX => k_is); (case pcX => k_is); (case pkX => k_is)
    (case paA => k_is); (case plA => k_is); (case pcA => k_is); (case pkA => k_is)
    (case paG => k_is); (case plG => k_is); (case pcG => k_is); (case pkG => k_is)
    (case paR => k_is); (case plR => k_is); (case pcR => k_is); (case pkR => k_is)
    (case paZ => k_is); (case plZ => k_is); (case pcZ => k_is); (case pkZ => k_is)
    (case nTOO => kernel_rfl); (case hCdOO => kernel_rfl)
    (case y1 => k_is)
    (case y2 => k_is)
    (case z1 => k_is); (case z2 => k_is); (case z3 => k_is); (case z4 => k_is); (case z5 => k_is); (case z6 => k_is); (case z7 => k_is); (case z8 => k_is); (case z9 => k_is); (case z10 => k_is); (case z11 => k_is); (case z12 => k_is); (case z13 => k_is); (case z14 => k_is)
