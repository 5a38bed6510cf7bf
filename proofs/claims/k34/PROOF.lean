import PyProof.Rows.All
import Wide.All
import OpenK.AllK
import Wide.FinOn
import KE.KExcSuper
import HandS.ForMost
import HandS.Exc
import HandS.ExcInit
import HandS.ExcField
import HandS.ExcValue
import HandS.Style
import HandS.Walk
import HandS.IsInst
import HandS.More
import KE.KExcIs
import PyProof.NeKinds
import KE.KEqDict
import HandS.ExcIs
import HandS.Strs
import HandS.SortInts
import HandS.Comp
import HandS.Conv
import HandS.Iter
import HandS.SetFor
import HandS.Zip
import PyProof.Rows.ChunkLeaf
import HandS.Words
import KE.SortData
import KE.DataMinMax
import KE.KEqSeq
import HandS.TupAny
import HandS.DictSubView
import HandS.Sort
import HandS.Gcd
import HandS.Wide
import KE.KDictList
import KE.KMathGC
import HandS.TryMany
import HandS.Lambda
import HandS.EndTab
import HandS.Codes
import HandS.WordsExc
import PyProof.LongRange
import PySem.Challenge.RW_turnindex_k34_whole_great_samplings
set_option Elab.async false
set_option linter.all false
set_option maxRecDepth 100000
set_option maxHeartbeats 4000000
/-! ErrKit: an error class of the program: __init__ says super().__init__(text), then keeps its one value. -/
namespace EK
open PySem PySem.W PySem.Calls PyProof.Rows PySem.HandSPX L2
/-! ### the text of such an __init__ -/
def eArgs (f : Str) (p1 p2 : Pos) : Arguments := { posonlyargs := [], args := [{ arg := "self", annotation := none, pos := p1 }, { arg := f, annotation := none, pos := p2 }], vararg := none, kwonlyargs := [], kw_defaults := [], kwarg := none, defaults := [] }
def eBody (f msg : Str) (a1 a2 a3 a4 a5 a6 b1 b2 b3 b4 : Pos) : List Stmt :=
  [.Expr (.Call (.Attribute (.Call (.Name "super" a1) [] [] a2) "__init__" a3) [.Constant (.str msg) 0 a4] [] a5) a6, .Assign [.Attribute (.Name "self" b1) f b2] (.Name f b3) b4]
def eScope (f : Str) : Scope := { kind := .function, names := [(PySem.Str.ofString "self", .local), (f, .local), (PySem.Str.ofString "__class__", .free), (PySem.Str.ofString "super", .globalImplicit)], isGenerator := false, isCoroutine := false, more := [] }

/-- the row super().__init__(msg) of the text, as a call of a method -/
def SupCall (a1 a2 a3 a4 a5 : Pos) (msg : Str) (env : Env) : Prop := ∃ pl : Sem Bool,
  eval (.Call (.Attribute (.Call (.Name "super" a1) [] [] a2) "__init__" a3) [.Constant (.str msg) 0 a4] [] a5) env = (do
    let ov ← attributeBase (.Call (.Name "super" a1) [] [] a2) "__init__" env (eval (.Call (.Name "super" a1) [] [] a2) env)
    standAt a3.atName
    let (g, first) ← holding [ov] (getMethod ov "__init__" pl)
    callWith a5 g first (backTo a5 (starEach [.Constant (.str msg) 0 a4] env)) [])
/-- what the top has written of the class x at C, of its __init__ at fI -/
structure ErrTxt (P : Program) (K : Frag) (mg : Str → Option Value) (x f : Str) (C fI : Addr) : Prop where
  gC : mg x = some (.ref C)
  cls : ∃ nm q N bs bm sn sub ab col dd k0 k1 k2 k3 k5, K.lookup C = some (excClassObj nm q C N bs bm true sn sub ab col dd k0 k1 k2 k3 k5 "ValueError.__new__") ∧ refsVE bm = true
  sa : findIn K (.ref C) "__setattr__" = some (some (.builtin "object.__setattr__"))
  ga : findIn K (.ref C) "__getattribute__" = some (some (.builtin "BaseException.__getattribute__"))
  gg : findIn K (.ref C) "__getattr__" = some none
  noN : findIn K (.ref C) f = some none
  iC : findIn K (.ref C) "__init__" = some (some (.ref fI))
  tC : typeIn K (.ref fI) = some (.type "function")
  kC : keepIn K (.ref C) = true
  exC : subIn K (.ref C) (.type "BaseException") = some true
  tyC : typeIn K (.ref C) = some (.type "type")
  hdC : hasDictIn K C = true
  te : exmOne K (.ref C) (.ref C) = some true
  hB : subIn K (.ref C) (.type "ValueError") = some true
  si : ks_superIn K C C "__init__" = some (some (.builtin "ValueError.__init__"))
  ho : nsIn K cStatics "thirdparty.any" = some none
  su : mg "super" = none
  mC : mroIn K C (.ref C) = some true
  fok : f ≠ "self" ∧ f ≠ "__class__" ∧ f ≠ "super" ∧ f ≠ "__debug__"
  top : (P.main.scope.names.lookup ("super" : Str)).isSome = false
  fn : ∃ (oc : Value) (od : Option Addr) (qn msg : Str) (doc pm : Value) (an : Option Addr) (cda cc : Addr) (ct : Value) (osl : Array (Option Value)) (p1 p2 a1 a2 a3 a4 a5 a6 b1 b2 b3 b4 : Pos),
    K.lookup fI = some ⟨oc, od, .func (ksFn "__init__" qn (eArgs f p1 p2) (eBody f msg a1 a2 a3 a4 a5 a6 b1 b2 b3 b4) (eScope f) .none .none doc pm an (.ref cda) ct cc), osl⟩ ∧ codeIn K (.ref cda) qn = true ∧
    (∀ u v : Value, bindArgs (ksFn "__init__" qn (eArgs f p1 p2) (eBody f msg a1 a2 a3 a4 a5 a6 b1 b2 b3 b4) (eScope f) .none .none doc pm an (.ref cda) ct cc) ⟨[u, v], []⟩ = pure [(("self" : Str), u), (f, v)]) ∧
    (∀ L : Addr, SupCall a1 a2 a3 a4 a5 msg (callEnv (ksFn "__init__" qn (eArgs f p1 p2) (eBody f msg a1 a2 a3 a4 a5 a6 b1 b2 b3 b4) (eScope f) .none .none doc pm an (.ref cda) ct cc) L fI)) ∧
    (∃ (ccl : Value) (cdd : Option Addr) (ccs : Array (Option Value)) (vs : Array Value) (file : Str) (tf : Tok), K.lookup cda = some ⟨ccl, cdd, .fields vs, ccs⟩ ∧ vs[2]? = some (.str file tf) ∧ ((P.main.file : Str) == file) = true) ∧
    ∃ (cl : Value) (cld : Option Addr) (csl : Array (Option Value)), K.lookup cc = some ⟨cl, cld, .cell (some (.ref C)), csl⟩
theorem one_size (v : Value) : [v].length ≤ sizeLine := by
  rw [sizeLine_eq]
  exact (by decide : 1 ≤ 16777216)
/-- what __init__ leaves of the exception at y -/
structure MadeI (h h' : Heap) (y C dx : Addr) (f : Str) (v : Value) : Prop where
  keep : ∀ b o, b ≠ y → h.get? b = some o → h'.get? b = some o
  obj : ∃ t1 : Addr, h'.get? y = some { cls := .ref C, dict := some dx, data := .fields #[.ref t1, .none, .none, .none, .bool false, .none] }
  dbig : h.objs.size ≤ dx
  dne : dx ≠ y
  ns : h'.Ns1 dx (fun z => if z = f then some v else none)
theorem kept_but {K : Frag} {h h' : Heap} {x : Addr} (X : K.In h) (hx : K.lookup x = none) (k : ∀ b o, b ≠ x → h.get? b = some o → h'.get? b = some o) : K.In h' := fun a o e =>
  k a o (fun z => by rw [z, hx] at e; cases e) (X a o e)
section
variable {prog : Program} {w : World} {A : Around} {E : Value → Shared → Prop} {R : Result → Shared → Prop} {s : Shared} {K : Frag} {mg : Str → Option Value} {C fI : Addr} {x f : Str}
/-- the method-wrapper that super().__init__ gives is called -/
theorem call_mw {u e t0 : Addr} {rest : List Value} {nm q : Str} {C N : Addr} {bs bm : List Value} {hdct : Bool} {sn : List Str} {sub : List Value} {ab : Bool} {col : Option Bool} {dd : Option Addr} {k0 k1 k2 k3 k5 : Option Value} {Q : Value → Shared → Prop}
    (hC : s.heap.get? C = some (excClassObj nm q C N bs bm hdct sn sub ab col dd k0 k1 k2 k3 k5 "ValueError.__new__")) (he : s.heap.get? e = some (excO C t0)) (hu : s.heap.get? u = some (kxs_mw "ValueError.__init__" e)) (hrest : rest.length ≤ sizeLine)
    (hq : ∀ h' t1, (∀ b o, b ≠ e → s.heap.get? b = some o → h'.get? b = some o) → h'.get? e = some (excO C t1) → Q .none { s with heap := h' }) :
    wpAny (model prog w) A (call (.ref u) rest) Q E s := by
  obtain ⟨hh, g, d, tk, os⟩ := s
  refine wpAny_call (codeAny_of_tree ?_)
  show wpAny _ A.in1 (callAny (.ref u) ⟨rest, []⟩) _ _ _
  simp only [callAny]
  refine wpAny_bind (wpAny_load hu ?_)
  simp only [kxs_mw, show (Value.type "method-wrapper" == Value.type "method" || Value.type "method-wrapper" == Value.type "builtin_function_or_method" || Value.type "method-wrapper" == Value.type "method-wrapper") = true by decide, if_true]
  refine KFB.if_so (by decide) ?_
  refine wpAny_bind (check_bound_init F.excBase_ValueError.toExcCallFacts hC he rfl ?_)
  refine wpAny_bind (wpAny_pure (wpAny_pure ?_))
  refine ⟨plainId_quiet F.excBase_ValueError.init.plain _, codeAny_builtin F.excBase_ValueError.initEntry ?_⟩
  exact exc_init_tree (cls := .ref C) (t0 := t0) (dv := none) (c2 := .none) (c3 := .none) (b4 := .bool false) he hrest fun h' k o _ => hq h' _ k o
theorem look_self (f : Str) : (eScope f).names.lookup ("self" : Str) = some .local := by
  show List.lookup ("self" : Str) ((("self" : Str), NameKind.local) :: _) = _
  rw [List.lookup_cons]
  simp
theorem look_f {f : Str} (h : f ≠ "self") : (eScope f).names.lookup f = some .local := by
  have e : (f == ("self" : Str)) = false := by simpa using h
  show List.lookup f ((("self" : Str), NameKind.local) :: (f, NameKind.local) :: _) = _
  rw [List.lookup_cons, e, List.lookup_cons]
  simp
theorem look_cls {f : Str} (h : f ≠ "__class__") : (eScope f).names.lookup ("__class__" : Str) = some .free := by
  have e : ((("__class__" : Str)) == f) = false := by simpa using Ne.symm h
  have e2 : ((("__class__" : Str)) == ("self" : Str)) = false := by decide +kernel
  show List.lookup ("__class__" : Str) ((("self" : Str), NameKind.local) :: (f, NameKind.local) :: (("__class__" : Str), NameKind.free) :: _) = _
  rw [List.lookup_cons, e2, List.lookup_cons, e, List.lookup_cons]
  simp
theorem look_super {f : Str} (h : f ≠ "super") : (eScope f).names.lookup ("super" : Str) = some .globalImplicit := by
  have e : ((("super" : Str)) == f) = false := by simpa using Ne.symm h
  have e2 : ((("super" : Str)) == ("self" : Str)) = false := by decide +kernel
  have e3 : ((("super" : Str)) == ("__class__" : Str)) = false := by decide +kernel
  show List.lookup ("super" : Str) ((("self" : Str), NameKind.local) :: (f, NameKind.local) :: (("__class__" : Str), NameKind.free) :: (("super" : Str), NameKind.globalImplicit) :: []) = _
  rw [List.lookup_cons, e2, List.lookup_cons, e, List.lookup_cons, e3, List.lookup_cons]
  simp
theorem bl_self {f : Str} (h : f ≠ "self") (a v : Value) : List.lookup ("self" : Str) ([(("self" : Str), a), (f, v)].reverse) = some a := by
  have e : ((("self" : Str)) == f) = false := by simpa using Ne.symm h
  show List.lookup ("self" : Str) ((f, v) :: (("self" : Str), a) :: []) = _
  rw [List.lookup_cons, e, List.lookup_cons]
  simp
theorem bl_f {f : Str} (a v : Value) : List.lookup f ([(("self" : Str), a), (f, v)].reverse) = some v := by
  show List.lookup f ((f, v) :: (("self" : Str), a) :: []) = _
  rw [List.lookup_cons]
  simp
theorem err_init (T : ErrTxt prog K mg x f C fI) {y t0 : Addr} {v : Value} (X : K.In s.heap) (hlim : s.heap.NoLimit) (hg : s.heap.Ns mainGlobals mg) (hb : ∃ mb, s.heap.Ns builtinsNs mb ∧ ∀ z : Str, z ≠ "__name__" → mb z = bootBuiltins z)
    (hx : s.heap.get? y = some (excO C t0)) (hnx : K.lookup y = none) (hroom : A.depth < recursionLimit)
    (hq : ∀ h' tk dx, MadeI s.heap h' y C dx f v → R (.ok (.ret .none)) { s with heap := h', toks := tk }) :
    codeAny (model prog w) A (.call (.ref fI) ⟨[.ref y, v], []⟩) R s := by
  obtain ⟨oc, od, qn, msg, doc, pm, an, cda, cc, ct, osl, p1, p2, a1, a2, a3, a4, a5, a6, b1, b2, b3, b4, ho, hcd, hB, hS, ⟨ccl, cdd, ccs, vs, file, tf, hcda, hvs, hfile⟩, ⟨cl, cld, csl, hcell⟩⟩ := T.fn
  obtain ⟨nm, q, N, bs, bm, sn, sub, ab, col, dd, k0, k1, k2, k3, k5, hC, hbm⟩ := T.cls
  obtain ⟨mb, hbn, hbv⟩ := hb
  obtain ⟨hf1, hf2, hf3, hf4⟩ := T.fok
  have hcl : clsIn K C = some { name := nm, bases := bs, mro := .ref C :: bm, ns := N, qualname := q, hasDict := true, slotNames := sn, subclasses := sub, abstract := ab, collection := col, hasDel := false } := by unfold clsIn; rw [hC] <;> rfl
  refine ks_codeAny_call_defAt (fd := ksFn "__init__" qn (eArgs f p1 p2) (eBody f msg a1 a2 a3 a4 a5 a6 b1 b2 b3 b4) (eScope f) .none .none doc pm an (.ref cda) ct cc) (body := eBody f msg a1 a2 a3 a4 a5 a6 b1 b2 b3 b4) (binds := [(("self" : Str), Value.ref y), (f, v)]) hroom (X _ _ ho) rfl hlim (codeRec_of X hcd) rfl (BindsTo.of_eq (hB _ _)) ?_ ?_ (fun h₁ hns k => ?_) rfl rfl rfl
  · intro z hz
    rcases List.mem_cons.mp hz with rfl | hz
    · exact fun e => nomatch e
    rcases List.mem_cons.mp hz with rfl | hz
    · exact fun e => nomatch e
    rcases List.mem_cons.mp hz with rfl | hz
    · exact fun e => nomatch e
    rcases List.mem_cons.mp hz with rfl | hz
    · exact fun e => nomatch e
    · cases hz
  · intro z hz
    rcases List.mem_cons.mp hz with rfl | hz
    · exact look_self f
    rcases List.mem_cons.mp hz with rfl | hz
    · exact look_f hf1
    · cases hz
  · have X₁ : K.In h₁ := X.keeps k
    have hyL : s.heap.objs.size ≠ y := Nat.ne_of_gt (Heap.lt_size hx)
    have ks : (callEnv (ksFn "__init__" qn (eArgs f p1 p2) (eBody f msg a1 a2 a3 a4 a5 a6 b1 b2 b3 b4) (eScope f) .none .none doc pm an (.ref cda) ct cc) s.heap.objs.size fI).kindOf "super" = some .globalImplicit := look_super hf3
    obtain ⟨oD, hD⟩ : ∃ oD, h₁.get? C = some oD ∧ ∃ cd : ClassData, oD.data = .cls cd := ⟨_, X₁ _ _ hC, _, rfl⟩
    obtain ⟨hD1, cdD, hD2⟩ := hD
    have IY : ∀ {h : Heap}, h.get? y = some (excO C t0) → InstAt h y (excO C t0) C none := fun e => ⟨e, rfl, rfl, trivial⟩
    have hyC : y ≠ C := fun z => by rw [z, hC] at hnx; cases hnx
    obtain ⟨pl, hpl⟩ := hS s.heap.objs.size
    refine ks_wpAt_execs_cons (ks_wpAt_Expr_any (ks_wpAt_MethodCall ?_ hpl) (by rfl) (by rfl))
    refine ks_wpAt_super_base ks (look_cls hf2) (by decide +kernel) rfl (X₁ _ _ ho) rfl rfl rfl (X₁ _ _ hcda) rfl hvs hfile T.top ?_
    refine ks_loadName_global rfl ks (loadGlobal_builtin (hg.keeps k) T.su (hbn.keeps k) (hbv _ (by decide +kernel)) ⟨by rfl, ?_⟩)
    refine wpAny_loadName_free rfl (look_cls hf2) rfl ⟨_, X₁ _ _ hcell, rfl⟩ ?_
    refine wpAny_loadName_local rfl (look_self f) hns (bl_self hf1 _ _) ?_
    refine ks_wpAny_isType_cls hD1 hD2 ⟨rfl, ?_⟩
    refine ks_wpAny_call_super hD1 hD2 (k _ _ hx) rfl (fun c e => nomatch e) (looks_mroIn X₁ T.mC) (fun h2 hso k2 => ?_)
    have X2 : K.In h2 := X₁.keeps k2
    refine kxs_getMethod kxs_ValueError hso (looks_opaque X2 T.ho) (l₀ := .ref C :: bm) ((looks_clsIn X2 hcl).andThen .now) rfl X2 ?_ ((IY (k2 _ _ (k _ _ hx))).type.andThen (looks_subIn X2 T.hB)) hyC (by decide +kernel) ?_
    · have e := T.si
      unfold ks_superIn at e
      rw [hcl] at e
      exact e
    have k3 : ∀ b o, h2.get? b = some o → (h2.push (kxs_mw "ValueError.__init__" y)).get? b = some o := fun b o e => Heap.get?_push_of_some _ e
    have hu : (h2.push (kxs_mw "ValueError.__init__" y)).get? h2.objs.size = some (kxs_mw "ValueError.__init__" y) := Heap.get?_push_at rfl rfl
    refine kxs_callWith (i := "ValueError.__init__") (x := y) (by rfl) (evalArgs_plain (Calls.spliced_cons (Calls.Constant_str (k := 0) (pos := a4) (Calls.spliced_nil ⟨hu, ?_⟩))))
    refine call_mw (X2.keeps k3 _ _ hC) (k3 _ _ (k2 _ _ (k _ _ hx))) hu (one_size _) fun h4 t1 k4 hy4 => ?_
    have X4 : K.In h4 := kept_but (X2.keeps k3) hnx k4
    have kk : ∀ b o, b ≠ y → h₁.get? b = some o → h4.get? b = some o := fun b o n e => k4 b o n (k3 b o (k2 b o e))
    have n4 : h4.Ns s.heap.objs.size fun z => [(("self" : Str), Value.ref y), (f, v)].reverse.lookup z := by
      obtain ⟨o, es, ep, e1, r⟩ := hns
      exact ⟨o, es, ep, kk _ _ hyL e1, r⟩
    have hfd : (f == ("__debug__" : Str)) = false := by simpa using hf4
    refine wpAt_of_wpAny (wpAny_execs_cons (plainObj_wpAny_Assign_Attribute ?_))
    refine wpAny_Name (wpAny_loadName_local rfl (look_f hf1) n4 (bl_f _ _) ?_) hfd
    refine wpAny_Name (wpAny_loadName_local rfl (look_self f) n4 (bl_self hf1 _ _) ?_) (by decide +kernel)
    refine set_plain X4 (ox := excO C t1) (od := none) ⟨hy4, rfl, rfl, trivial⟩ T.sa ?_
    refine exc_osa X4 hy4 hcl (show refsVE (.ref C :: bm) = true from hbm) rfl T.noN (fun h5 tk5 dx k5 dn dne hx5 hn5 => ?_)
    refine wpAny_execs_nil (hq h5 tk5 dx ⟨fun b o hb e => k5 b o hb (kk b o hb (k b o e)), ⟨_, hx5⟩, ?_, dne, hn5⟩)
    have z1 : s.heap.objs.size < h4.objs.size := n4.lt
    exact Nat.le_of_lt (Nat.lt_of_lt_of_le z1 dn)
/-- an error that was made: the object at e, its own dict at d -/
structure MadeE (h h' : Heap) (e C d : Addr) (f : Str) (v : Value) : Prop where
  keep : ∀ b o, h.get? b = some o → h'.get? b = some o
  new : h.objs.size ≤ e
  obj : ∃ t1 : Addr, h'.get? e = some { cls := .ref C, dict := some d, data := .fields #[.ref t1, .none, .none, .none, .bool false, .none] }
  dbig : h.objs.size ≤ d
  dne : d ≠ e
  ns : h'.Ns1 d (fun z => if z = f then some v else none)
theorem not_in {K : Frag} {h : Heap} {a : Addr} (X : K.In h) (ha : h.objs.size ≤ a) : K.lookup a = none := by
  cases e : K.lookup a with
  | none => rfl
  | some o => exact absurd (Nat.lt_of_lt_of_le (Heap.lt_size (X _ _ e)) ha) (Nat.lt_irrefl _)
theorem err_made (T : ErrTxt prog K mg x f C fI) {v : Value} (X : K.In s.heap) (hlim : s.heap.NoLimit) (hg : s.heap.Ns mainGlobals mg) (hb : ∃ mb, s.heap.Ns builtinsNs mb ∧ ∀ z : Str, z ≠ "__name__" → mb z = bootBuiltins z)
    (hroom : A.depth + 1 < recursionLimit) (hq : ∀ h' tk e d, MadeE s.heap h' e C d f v → R (.ok (.ret (.ref e))) { s with heap := h', toks := tk }) :
    codeAny (model prog w) A (.call (.ref C) ⟨[v], []⟩) R s := by
  obtain ⟨nm, q, N, bs, bm, sn, sub, ab, col, dd, k0, k1, k2, k3, k5, hC, hbm⟩ := T.cls
  obtain ⟨mb, hbn, hbv⟩ := hb
  obtain ⟨hp, g, dr, tk, os⟩ := s
  have k : ∀ b o, hp.get? b = some o → ((hp.push (kdv_tup [v])).push (excO C hp.objs.size)).get? b = some o := fun b o e => Heap.get?_push_of_some _ (Heap.get?_push_of_some _ e)
  have hget : ((hp.push (kdv_tup [v])).push (excO C hp.objs.size)).get? (hp.objs.size + 1) = some (excO C hp.objs.size) := by heap_get
  have hnx : K.lookup (hp.objs.size + 1) = none := not_in X (Nat.le_succ _)
  refine call_own F.excBase_ValueError (fun X => refsVE_contains X bm hbm) (X _ _ hC) (looks_findIn X T.iC) (fun self => bind_fn X self T.tC) (one_size v) ?_
  refine err_init (s := ⟨(hp.push (kdv_tup [v])).push (excO C hp.objs.size), g, dr, tk, os⟩) T (X.keeps k) (hlim.keeps k) (hg.keeps k) ⟨mb, hbn.keeps k, hbv⟩ hget hnx ?_ fun h' tk' dx ⟨k', ⟨t1, hx⟩, dn, dne, hns⟩ => ?_
  · show A.depth + 1 < recursionLimit
    exact hroom
  · have old : ∀ b o, hp.get? b = some o → h'.get? b = some o := fun b o e => k' b o (Nat.ne_of_lt (Nat.lt_succ_of_lt (Heap.lt_size e))) (k b o e)
    have z : hp.objs.size + 1 + 1 ≤ dx := by
      have q := dn
      rw [Heap.size_push, Heap.size_push] at q
      exact q
    exact ⟨rfl, hq h' tk' (hp.objs.size + 1) dx ⟨old, Nat.le_succ _, ⟨t1, hx⟩, Nat.le_trans (Nat.le_trans (Nat.le_succ _) (Nat.le_succ _)) z, dne, hns⟩⟩
end
end EK
namespace L2
open PySem PySem.Spec PyProof.Rows EK
theorem relO_one {f : Str} {v : V} {u : Value} (r : RelV v u) (g : Str) : RelO (List.lookup g [(f, v)]) (if g = f then some u else none) := relO_put (fs := []) (mA := fun _ => none) r (fun _ => True.intro) g
section
variable {X : Cx} {C fI : Addr} {x f : Str}
/-- x(e) as a value: a new error at a, its dict at d -/
def tErrV (C : Addr) (f : Str) (ta : TA) : TE := fun σ H Q => ta σ H fun vs H1 => ∃ v, vs = [v] ∧ ∀ a d, H1 a = none → H1 d = none → d ≠ a → Q (.ref a) (upd (upd H1 d (exd d [(f, v)])) a (exo a C (some d)))
theorem pe_errV {a : Expr} {ta : TA} {p pos : Pos} {k : Nat} (T : ErrTxt X.prog X.K X.mg x f C fI) (hr : Room k X.A) (ha : PA X [a] ta) (hg : Gl X x) (hd : (x == ("__debug__" : Str)) = false := by decide)
    (he : starEach (a :: []) X.env = (false, eval a X.env) :: starEach [] X.env := by rfl) (hpl : (backTo pos (starEach [] X.env)).any (·.1) = false := by rfl) :
    PE X (.Call (.Name x p) [a] [] pos) (tErrV C f ta) := by
  refine ⟨fun pins s σ H Q I h => ?_⟩
  refine wpAny_Call_Name_kw (ld_glob I hg T.gC ?_ hd)
  refine PySem.W.callWith_K (h₀ := X.base) I.ok.mod.kin T.kC (thn (ha.run pos pins s σ H _ I h) fun us s1 hh => ?_) he hpl
  obtain ⟨vs, H1, I1, r1, v, ev, q1⟩ := hh
  subst ev
  refine ⟨I1.kIn, ?_⟩
  cases r1 with
  | cons rv rn =>
    rename_i v' us'
    cases rn
    show wpAny _ _ (call (.ref C) [v']) _ _ _
    have hlim := I1.nolimit
    obtain ⟨hp, g, dr, tk, os⟩ := s1
    obtain ⟨mb, hb1, hb2⟩ := I1.mod.blt
    refine wpAny_call (err_made T I1.kIn hlim (I1.mod.glob.keeps I1.bk) ⟨mb, hb1.keeps I1.bk, hb2⟩ (by have := hr.dp; omega) fun h' tk' e d M => ?_)
    obtain ⟨t1, hoe⟩ := M.obj
    have nd : H1 d = none := I1.hok.fresh M.dbig
    have ne : H1 e = none := I1.hok.fresh M.new
    obtain ⟨G, g1, g2⟩ := restrict h' fun b => decide (b ≠ e)
    have gk : ∀ b, b ≠ e → G.get? b = h'.get? b := fun b hb => g1 b (decide_eq_true hb)
    have ge : G.get? e = none := g2 e (by simp)
    have old : ∀ b o, hp.get? b = some o → G.get? b = some o := fun b o q => (gk b (Nat.ne_of_lt (Nat.lt_of_lt_of_le (Heap.lt_size q) M.new))).trans (M.keep b o q)
    have gs : ∀ b o, G.get? b = some o → h'.get? b = some o := fun b o q => by
      by_cases hbe : b = e
      · rw [hbe, ge] at q
        cases q
      · exact (gk b hbe).symm.trans q
    have J : Inv X pins σ (upd H1 d (exd d [(f, v)])) ⟨G, g, dr, tk', os⟩ := I1.laid (t' := tk') old M.dbig (exd_ok (M.ns.at fun o q => (gk d M.dne).trans q) (relO_one rv))
    have hne : (upd H1 d (exd d [(f, v)])) e = none := by
      rw [upd_ne (Ne.symm M.dne)]
      exact ne
    exact ⟨.ref e, _, J.laidN (t' := tk') gs ge hne (exo_ok hoe), rfl, q1 e d ne nd M.dne⟩
/-- a field of an error, read -/
def tErrF (K : PySem.W.Frag) (f : Str) (te : TE) : TE := fun σ H Q => te σ H fun x H1 => ∃ (a C d : Addr) (fs : List (Str × V)) (v : V), x = .ref a ∧ H1 a = some (exo a C (some d)) ∧ H1 d = some (exd d fs) ∧ XfC K C ∧ PySem.W.findIn K (.ref C) f = some none ∧ fs.lookup f = some v ∧ Q v H1
theorem pe_errF {e : Expr} {te : TE} {pos : Pos} (he : PE X e te) (hb : attributeBase e f X.env (eval e X.env) = eval e X.env := by rfl) : PE X (.Attribute e f pos) (tErrF X.K f te) := by
  refine ⟨fun pins s σ H Q I h => ?_⟩
  refine attr_of hb (thn (he.run pins s σ H _ I h) fun u s1 hh => ?_)
  obtain ⟨y, H1, I1, ry, a, C, d, fs, v, ey, ea, ed, T, hno, l, q⟩ := hh
  subst ey
  obtain rfl : u = Value.ref a := ry
  obtain ⟨t1, ha⟩ := exo_at I1.hok ea
  obtain ⟨mA, hns, hr⟩ := exd_at I1.hok ed
  obtain ⟨od, ho, hl⟩ := lookIn_ns hns
  obtain ⟨u, hu, ru⟩ := RelO.some_of (v := v) (o := mA f) (by rw [← l]; exact hr f)
  have J : PySem.W.InstAt s1.heap a _ C (some od) := ⟨ha, rfl, rfl, ho⟩
  exact HandSPX.exc_get I1.kIn J T.ga T.gg T.exC (PySem.W.findObj_own T.hdC hno rfl (by rw [hl, hu])) (handed_of ru) ⟨v, H1, I1.tok _, ru, q⟩
end
end L2

set_option Elab.async false
set_option linter.all false
set_option maxRecDepth 100000
set_option maxHeartbeats 4000000
/-! EqKit: things that are told equal, whatever they hold; isinstance of errors. -/
namespace L2
open PySem PySem.Spec PyProof.Rows
/-- x and y compare equal, at most n deep: one thing, or lists, tuples of such -/
inductive Sm (K : PySem.W.Frag) (H : Hp) : Nat → V → V → Prop
  | rf {n : Nat} (x : V) (h : ∀ b, x ≠ .flt b) : Sm K H n x x
  | ls {n : Nat} {a b : Addr} {xs ys : List V} (h1 : SqL K H a xs) (h2 : SqL K H b ys) (hl : xs.length = ys.length) (h : ∀ (i : Nat) x y, xs[i]? = some x → ys[i]? = some y → Sm K H n x y) : Sm K H (n + 1) (.ref a) (.ref b)
  | tp {n : Nat} {a b : Addr} {xs ys : List V} (h1 : SqT K H a xs) (h2 : SqT K H b ys) (hl : xs.length = ys.length) (h : ∀ (i : Nat) x y, xs[i]? = some x → ys[i]? = some y → Sm K H n x y) : Sm K H (n + 1) (.ref a) (.ref b)
section
variable {X : Cx} {pins : List (Addr × Obj)} {σ : St} {H : Hp} {s : Shared}
theorem sm_items {xs ys : List V} {us vs : List Value} {A : Around} (rx : Vals xs us) (ry : Vals ys vs)
    (h : ∀ (i : Nat) x y, xs[i]? = some x → ys[i]? = some y → ∀ u v, RelV x u → RelV y v → SeqAt.EqAt A s u v true) :
    ∀ j (h1 : j < us.toArray.size) (h2 : j < vs.toArray.size), SeqAt.EqAt A s us.toArray[j] vs.toArray[j] true := by
  intro j h1 h2
  have l1 := rx.length
  have l2 := ry.length
  have j1 : j < xs.length := by rw [l1]; simpa using h1
  have j2 : j < ys.length := by rw [l2]; simpa using h2
  obtain ⟨u, e1, r1⟩ := rx.get (List.getElem?_eq_getElem j1)
  obtain ⟨v, e2, r2⟩ := ry.get (List.getElem?_eq_getElem j2)
  have f1 : us.toArray[j] = u := by
    have q : us[j]? = some (us[j]'(by simpa using h1)) := List.getElem?_eq_getElem _
    rw [e1] at q
    simpa using (Option.some.inj q).symm
  have f2 : vs.toArray[j] = v := by
    have q : vs[j]? = some (vs[j]'(by simpa using h2)) := List.getElem?_eq_getElem _
    rw [e2] at q
    simpa using (Option.some.inj q).symm
  rw [f1, f2]
  exact h j _ _ (List.getElem?_eq_getElem j1) (List.getElem?_eq_getElem j2) u v r1 r2
theorem all_true {n : Nat} : ((List.range n).all fun _ => true) = true := by
  induction n with
  | zero => rfl
  | succ n ih => simp
theorem sm_at (I : Inv X pins σ H s) : ∀ {n : Nat} {x y : V} {u v : Value} {A : Around}, Sm X.K H n x y → RelV x u → RelV y v → A.units + n < cLine → SeqAt.EqAt A s u v true := by
  intro n x y u v A h
  induction h generalizing u v A with
  | rf x hf =>
    intro r1 r2 _
    cases x with
    | non => cases r1; cases r2; exact .same _
    | bl b => cases r1; cases r2; exact .same _
    | int i =>
      obtain ⟨t, rfl⟩ := r1
      obtain ⟨t', rfl⟩ := r2
      have q := SeqAt.EqAt.int_int (A := A) (s := s) i t i t'
      rw [beq_self_eq_true] at q
      exact q
    | str z =>
      obtain ⟨t, rfl⟩ := r1
      obtain ⟨t', rfl⟩ := r2
      have q := SeqAt.EqAt.str_str (A := A) (s := s) z t z t'
      rw [beq_self_eq_true] at q
      exact q
    | byt b =>
      obtain ⟨t, rfl⟩ := (show ∃ t, u = Value.bytes b t from r1)
      obtain ⟨t', rfl⟩ := (show ∃ t, v = Value.bytes b t from r2)
      exact fun prog w E Q h => PySem.W.eqBool_bytes (by simpa using h)
    | flt b => exact absurd rfl (hf b)
    | ref a => cases r1; cases r2; exact .same _
    | ty n => cases r1; cases r2; exact .same _
  | @ls n a b xs ys h1 h2 hl _ ih =>
    intro r1 r2 hu
    cases r1; cases r2
    by_cases e : a = b
    · rw [e]; exact .same _
    · obtain ⟨us, ru, ⟨o, m, ho, hc, _, hd⟩, _⟩ := I.list h1
      obtain ⟨vs, rv, ⟨o', m', ho', hc', _, hd'⟩, _⟩ := I.list h2
      have hs : us.toArray.size = vs.toArray.size := by simp only [List.size_toArray]; rw [← ru.length, ← rv.length, hl]
      refine .of_refs e ?_
      have q := SeqAt.RcAt.lists (A := A) (s := s) (e := fun _ => true) ⟨o, ho, hc, m, hd⟩ ⟨o', ho', hc', m', hd'⟩ hs (by omega) (sm_items (A := A.in1) ru rv fun i x y e1 e2 u v s1 s2 => ih i x y e1 e2 s1 s2 (by show A.units + 1 + n < cLine; omega))
      rw [all_true] at q
      exact q
  | @tp n a b xs ys h1 h2 hl _ ih =>
    intro r1 r2 hu
    cases r1; cases r2
    by_cases e : a = b
    · rw [e]; exact .same _
    · obtain ⟨us, ru, ⟨o, ho, hc, m, hd⟩, _⟩ := I.tuple h1
      obtain ⟨vs, rv, ⟨o', ho', hc', m', hd'⟩, _⟩ := I.tuple h2
      have hs : us.toArray.size = vs.toArray.size := by simp only [List.size_toArray]; rw [← ru.length, ← rv.length, hl]
      refine .of_refs e ?_
      have q := SeqAt.RcAt.tuples (A := A) (s := s) (e := fun _ => true) ⟨o, ho, hc, m, hd⟩ ⟨o', ho', hc', m', hd'⟩ (by omega) (sm_items (A := A.in1) ru rv fun i x y e1 e2 u v s1 s2 => ih i x y e1 e2 s1 s2 (by show A.units + 1 + n < cLine; omega))
      rw [all_true, hs, beq_self_eq_true] at q
      exact q
/-- what may stand on both sides of a comparison that is told equal -/
inductive SmT (K : PySem.W.Frag) (H : Hp) : V → V → Prop
  | sc (x : V) (h : scal x x = true) : SmT K H x x
  | ls {a b : Addr} {xs ys : List V} (h1 : SqL K H a xs) (h2 : SqL K H b ys) (hl : xs.length = ys.length) (h : ∀ (i : Nat) x y, xs[i]? = some x → ys[i]? = some y → Sm K H 60 x y) : SmT K H (.ref a) (.ref b)
  | tp {a b : Addr} {xs ys : List V} (h1 : SqT K H a xs) (h2 : SqT K H b ys) (hl : xs.length = ys.length) (h : ∀ (i : Nat) x y, xs[i]? = some x → ys[i]? = some y → Sm K H 60 x y) : SmT K H (.ref a) (.ref b)
  | dk {a b : Addr} {kvs : List (Key × V)} (h1 : H a = some (.dK kvs)) (h2 : H b = some (.dK kvs)) (nd : (kvs.map (·.1)).Nodup) (fl : ∀ p ∈ kvs, flatB p.2 = true) : SmT K H (.ref a) (.ref b)
theorem op_neS (hu : X.A.units + 64 < cLine) : OpR X (compareOp .NotEq) (fun x y H Q => SmT X.K H x y ∧ Q (.bl false) H) := by
  intro pins s σ H x y v u Q I rx ry ⟨h, q⟩
  cases h with
  | sc x h => exact op_ne pins s σ H x x v u Q I rx ry ⟨h, by rw [decide_eq_true rfl]; exact q⟩
  | ls h1 h2 hl h =>
    cases rx; cases ry
    obtain ⟨us, ru, ⟨o, m, ho, hc, _, hd⟩, _⟩ := I.list h1
    obtain ⟨vs, rv, ⟨o', m', ho', hc', _, hd'⟩, _⟩ := I.list h2
    have hs : us.toArray.size = vs.toArray.size := by simp only [List.size_toArray]; rw [← ru.length, ← rv.length, hl]
    have z := SeqAt.RcNeAt.lists (A := X.A) (s := s) (e := fun _ => true) ⟨o, ho, hc, m, hd⟩ ⟨o', ho', hc', m', hd'⟩ hs (by omega) (sm_items (A := X.A.in1) ru rv fun i x y e1 e2 u v s1 s2 => sm_at I (h i x y e1 e2) s1 s2 (by show X.A.units + 1 + 60 < cLine; omega))
    rw [all_true] at z
    exact z X.prog X.w _ _ ⟨.bl false, H, I, rfl, q⟩
  | tp h1 h2 hl h =>
    cases rx; cases ry
    obtain ⟨us, ru, ⟨o, ho, hc, m, hd⟩, _⟩ := I.tuple h1
    obtain ⟨vs, rv, ⟨o', ho', hc', m', hd'⟩, _⟩ := I.tuple h2
    have hs : us.toArray.size = vs.toArray.size := by simp only [List.size_toArray]; rw [← ru.length, ← rv.length, hl]
    have z := SeqAt.RcNeAt.tuples (A := X.A) (s := s) (e := fun _ => true) ⟨o, ho, hc, m, hd⟩ ⟨o', ho', hc', m', hd'⟩ (by omega) (sm_items (A := X.A.in1) ru rv fun i x y e1 e2 u v s1 s2 => sm_at I (h i x y e1 e2) s1 s2 (by show X.A.units + 1 + 60 < cLine; omega))
    rw [all_true, hs, beq_self_eq_true] at z
    exact z X.prog X.w _ _ ⟨.bl false, H, I, rfl, q⟩
  | @dk a b kvs h1 h2 nd fl =>
    cases rx; cases ry
    obtain ⟨_, ya, va, ra, da⟩ := (show ObjOk X.prog X.w H s.heap a (.dK kvs) from I.hok a _ h1)
    obtain ⟨_, yb, vb, rb, db⟩ := (show ObjOk X.prog X.w H s.heap b (.dK kvs) from I.hok b _ h2)
    have hl : va.length = vb.length := ra.length.symm.trans rb.length
    exact PySem.W.keq_ne (knd := mixKind X.prog X.w) (r := true) ya yb da db (by omega) (fun _ => hits_all rb ra fun p hp => ⟨val_nodup nd p hp, fl p hp⟩) (fin_bl I q (by simp [hl]))
theorem op_eqS (hu : X.A.units + 64 < cLine) : OpR X (compareOp .Eq) (fun x y H Q => SmT X.K H x y ∧ Q (.bl true) H) := by
  intro pins s σ H x y v u Q I rx ry ⟨h, q⟩
  cases h with
  | sc x h => exact op_eq pins s σ H x x v u Q I rx ry ⟨h, by rw [decide_eq_true rfl]; exact q⟩
  | ls h1 h2 hl h =>
    cases rx; cases ry
    obtain ⟨us, ru, ⟨o, m, ho, hc, _, hd⟩, _⟩ := I.list h1
    obtain ⟨vs, rv, ⟨o', m', ho', hc', _, hd'⟩, _⟩ := I.list h2
    have hs : us.toArray.size = vs.toArray.size := by simp only [List.size_toArray]; rw [← ru.length, ← rv.length, hl]
    have z := SeqAt.RcAt.lists (A := X.A) (s := s) (e := fun _ => true) ⟨o, ho, hc, m, hd⟩ ⟨o', ho', hc', m', hd'⟩ hs (by omega) (sm_items (A := X.A.in1) ru rv fun i x y e1 e2 u v s1 s2 => sm_at I (h i x y e1 e2) s1 s2 (by show X.A.units + 1 + 60 < cLine; omega))
    rw [all_true] at z
    exact z X.prog X.w _ _ ⟨.bl true, H, I, rfl, q⟩
  | tp h1 h2 hl h =>
    cases rx; cases ry
    obtain ⟨us, ru, ⟨o, ho, hc, m, hd⟩, _⟩ := I.tuple h1
    obtain ⟨vs, rv, ⟨o', ho', hc', m', hd'⟩, _⟩ := I.tuple h2
    have hs : us.toArray.size = vs.toArray.size := by simp only [List.size_toArray]; rw [← ru.length, ← rv.length, hl]
    have z := SeqAt.RcAt.tuples (A := X.A) (s := s) (e := fun _ => true) ⟨o, ho, hc, m, hd⟩ ⟨o', ho', hc', m', hd'⟩ (by omega) (sm_items (A := X.A.in1) ru rv fun i x y e1 e2 u v s1 s2 => sm_at I (h i x y e1 e2) s1 s2 (by show X.A.units + 1 + 60 < cLine; omega))
    rw [all_true, hs, beq_self_eq_true] at z
    exact z X.prog X.w _ _ ⟨.bl true, H, I, rfl, q⟩
  | @dk a b kvs h1 h2 nd fl =>
    exact op_eq_dict (by omega) pins s σ H _ _ v u Q I rx ry ⟨a, b, kvs, rfl, rfl, h1, h2, nd, fl, q⟩
/-- isinstance(e, c), e an error that is held as a value -/
def rIsErr (K : PySem.W.Frag) : List V → Hp → VK → Prop := fun xs H Q => ∃ (a C : Addr) (d : Option Addr) (fs : List (Str × V)) (c : V) (u : Value) (b : Bool), xs = [.ref a, c] ∧ H a = some (exo a C d) ∧ (∀ dd, d = some dd → H dd = some (exd dd fs)) ∧ ExcC K C ∧ ClsV c u ∧ PySem.W.kitOne K (.ref C) u = some b ∧ Q (.bl b) H
theorem call_isErr : CallR X (.builtin "isinstance") (rIsErr X.K) := by
  intro pins s σ H xs us Q I r h
  obtain ⟨a, C, d, fs, c, u, b, rfl, ea, ed, T, k, e, q⟩ := h
  obtain ⟨u1, u2, rfl, r1, r2⟩ := vals2 r
  have e2 := k.eq r2
  subst e2
  cases r1
  obtain ⟨t1, ha⟩ := exo_at I.hok ea
  have hcl : (PySem.W.clsIn X.K C).isSome = true := by
    obtain ⟨cd, hc, _⟩ := PySem.W.any_some T.hd
    rw [hc]
    rfl
  cases d with
  | none => exact PySem.W.kia_one (PySem.W.kitx_exc (od := none) hcl T.hg T.hk T.hs T.ha T.hn T.ht T.hm) I.kIn (show PySem.W.InstAt s.heap a _ C none from ⟨ha, rfl, rfl, trivial⟩) e (fun z => nomatch z) fun tk => ⟨.bl b, H, I.tok tk, rfl, q⟩
  | some dd =>
    obtain ⟨mA, ⟨od, es, ep, ho, hr⟩, _⟩ := exd_at I.hok (ed dd rfl)
    exact PySem.W.kia_one (PySem.W.kitx_exc (od := some od) hcl T.hg T.hk T.hs T.ha T.hn T.ht T.hm) I.kIn (show PySem.W.InstAt s.heap a _ C (some od) from ⟨ha, rfl, rfl, ho⟩) e (fun z => nomatch z) fun tk => ⟨.bl b, H, I.tok tk, rfl, q⟩
end
end L2

set_option Elab.async false
set_option linter.all false
set_option maxRecDepth 100000
set_option maxHeartbeats 4000000
namespace T34
open PySem L2
def top (i : Nat) : Stmt := PySem.Challenge.pw_turnindex_k34_whole_great_samplings.main.body.getD i (.Pass ⟨0, 0, 0, 0⟩)
abbrev sIsNum : Stmt := top 7
abbrev sIsNB : Stmt := top 8
abbrev sIsSamp : Stmt := top 9
abbrev sCkN : Stmt := top 10
abbrev sCkNB : Stmt := top 11
abbrev sCkLen : Stmt := top 12
abbrev sCkSamp : Stmt := top 13
abbrev sMost : Stmt := top 15
abbrev sLeast : Stmt := top 16
abbrev sNumber : Stmt := top 17
abbrev sFirst : Stmt := top 18
abbrev sUrn : Stmt := top 20
abbrev sPull : Stmt := top 21
abbrev sPick : Stmt := top 22
abbrev sRows : Stmt := top 23
abbrev sFirstRight : Stmt := top 24
abbrev sLaw : Stmt := top 25
/-- an urn of draws: its own digits left, its number, how often it was asked -/
def UrnAt (H : Hp) (a : Addr) (n : Int) : Prop := ∃ w0 w1 w2 : Int, H a = some (.lst [.int w0, .int w1, .int w2]) ∧ 0 ≤ w1 ∧ w1 < 2147483563 ∧ 0 ≤ w2 ∧ w2 ≤ n
def KeepB (a : Addr) (H H' : Hp) : Prop := ∀ b o, H b = some o → b ≠ a → H' b = some o
theorem KeepB.trans {a : Addr} {H H1 H2 : Hp} (s : KeepB a H H1) (t : KeepB a H1 H2) : KeepB a H H2 := fun b o e n => t b o (s b o e n) n
def spUrn : Sp := fun vs H Q _ => ∃ c : Int, vs = [.int c] ∧ ∀ p H', H p = none → UrnAt H' p 0 → Same H H' → Q (.ref p) H'
def spPull : Sp := fun vs H Q _ => ∃ (a : Addr) (m n : Int), vs = [.ref a, .int m] ∧ UrnAt H a n ∧ n ≤ 1000000 ∧ 0 < m ∧ m < 1073741824 ∧ ∀ (d : Int) H', 0 ≤ d → d < m → UrnAt H' a (n + 1) → KeepB a H H' → Q (.int d) H'
structure TxtU (K : PySem.W.Frag) (mg : Str → Option Value) : Prop where
  int : mg "int" = none
  abs : mg "abs" = none
section
variable {P : Program} {w : World} {K : PySem.W.Frag} {mg : Str → Option Value} {base : Heap}
theorem scUrn : FnScope ["_law_cell"] ["_law_cell"] (defScope sUrn) := ⟨rfl, rfl, rfl, by decide +kernel, rfl, by decide +kernel, by decide +kernel⟩
theorem ok_urn {f : Addr} {fd : FuncData} (F : Fun K "_law_urn" "_law_urn" sUrn f fd) (T : TxtU K mg) : FnOk P w K mg base CX0 1 f fd ["_law_cell"] spUrn := by
  refine F.ok scUrn (fun vs H Q E h => ?_) (fun cdv A outer s H vs Q E hr h => ?_)
  · obtain ⟨c, rfl, _⟩ := h
    rfl
  · obtain ⟨c, rfl, k⟩ := h
    refine ⟨_, (pss_one (ps_ret (pe_lst (pa_cons (pe_ifExp (pt_cmpR op_ge (pe_callB call_abs (by rfl) T.abs (by decide +kernel) (pa_cons (pv 0) pa_nil)) (pe_op op_pow pe_int pe_int) (nomark _)) (pe_callB call_abs (by rfl) T.abs (by decide +kernel) (pa_cons (pv 0) pa_nil)) pe_int) (pa_cons (pe_op op_mod (pe_callTy call_int1 (by rfl) T.int (by decide +kernel) (pa_cons (pv 0) pa_nil)) pe_int) (pa_cons pe_int pa_nil)))))), ?_⟩
    refine ⟨_, rfl, _, rfl, _, _, rfl, rfl, ⟨by decide, by decide, by decide⟩, _, _, rfl, rfl, _, rfl, ?_⟩
    have fin : ∀ w0 : Int, ∃ v, (some (some (V.int c)) : Option (Option V)) = some (some v) ∧ ((∃ i, [v] = [V.int i] ∧ ∃ i_1 j, V.int i = .int i_1 ∧ V.int 2147483563 = .int j ∧ 0 < j ∧ [V.int w0, .int (i_1 % j), .int 0].length ≤ sizeLine ∧ ∀ p, H p = none → Q (.ref p) (upd H p (.lst [V.int w0, .int (i_1 % j), .int 0])))) := fun w0 =>
      ⟨_, rfl, _, rfl, _, _, rfl, rfl, (by decide), (by show 3 ≤ sizeLine; decide), fun p hp => k p _ hp ⟨_, _, _, upd_same, Int.emod_nonneg _ (by decide), Int.emod_lt_of_pos _ (by decide), by decide, by decide⟩ fun b o e => by rw [upd_ne (ne_of_none e hp)]; exact e⟩
    refine ite2 (fun h0 => ?_) (fun h0 => ?_)
    · refine ⟨_, rfl, _, rfl, ?_⟩
      obtain ⟨v, e, i, ev, i1, j, e1, e2, h1, h2, h3⟩ := fin (if c < 0 then -c else c)
      exact ⟨_, rfl, .inl ⟨_, rfl, _, _, rfl, rfl, (by show (0 : Int) < 2147483563; decide), (by show 3 ≤ sizeLine; decide), fun p hp => k p _ hp ⟨_, _, _, upd_same, Int.emod_nonneg _ (by decide), Int.emod_lt_of_pos _ (by decide), by decide, by decide⟩ fun b o e => by rw [upd_ne (ne_of_none e hp)]; exact e⟩⟩
    · exact ⟨_, rfl, .inl ⟨_, rfl, _, _, rfl, rfl, (by show (0 : Int) < 2147483563; decide), (by show 3 ≤ sizeLine; decide), fun p hp => k p _ hp ⟨_, _, _, upd_same, Int.emod_nonneg _ (by decide), Int.emod_lt_of_pos _ (by decide), by decide, by decide⟩ fun b o e => by rw [upd_ne (ne_of_none e hp)]; exact e⟩⟩
theorem scPull : FnScope ["_law_urn_here", "_law_many", "_law_found", "_law_mixed"] ["_law_urn_here", "_law_many"] (defScope sPull) := ⟨rfl, rfl, rfl, by decide +kernel, rfl, by decide +kernel, by decide +kernel⟩
theorem ok_pull {f : Addr} {fd : FuncData} (F : Fun K "_law_pull" "_law_pull" sPull f fd) (T : TxtU K mg) : FnOk P w K mg base CX0 1 f fd ["_law_urn_here", "_law_many"] spPull := by
  refine F.ok scPull (fun vs H Q E h => ?_) (fun cdv A outer s H vs Q E hr h => ?_)
  · obtain ⟨a, m, n, rfl, _⟩ := h
    rfl
  · obtain ⟨a, m, n, rfl, ⟨w0, w1, w2, ha, h1, h2, h3, h4⟩, hn, hm, hm2, k⟩ := h
    have nd := scPull.nd
    refine ⟨_, (pss_cons (ps_if (pt_cmpR op_gt (pe_ix ix_list (pv 0) pe_int (fun _ _ => rfl)) pe_int (nomark _)) (pss_cons (ps_set (i := 2) nd rfl (Or.inl rfl) (pe_op op_mod (pe_callTy call_int1 (by rfl) T.int (by decide +kernel) (pa_cons (pe_ix ix_list (pv 0) pe_int (fun _ _ => rfl)) pa_nil)) (pv 1)))
      (pss_cons (ps_asg (pe_op op_fdiv (pe_ix ix_list (pv 0) pe_int (fun _ _ => rfl)) (pv 1)) (pg_sub (pv 0) pe_int set_list))
      (pss_one (ps_ret (pv 2))))) pss_nil)
      (pss_cons (ps_asg (pe_op op_add (pe_ix ix_list (pv 0) pe_int (fun _ _ => rfl)) pe_int) (pg_sub (pv 0) pe_int set_list))
      (pss_cons (ps_set (i := 3) nd rfl (Or.inl rfl) (pe_op op_mod (pe_callTy call_int1 (by rfl) T.int (by decide +kernel) (pa_cons (pe_op op_add (pe_op op_add (pe_op op_mul (pe_ix ix_list (pv 0) pe_int (fun _ _ => rfl)) pe_int) (pe_op op_mul (pe_ix ix_list (pv 0) pe_int (fun _ _ => rfl)) pe_int)) pe_int) pa_nil)) pe_int))
      (pss_cons (ps_set (i := 3) nd rfl (Or.inl rfl) (pe_op op_mod (pe_callTy call_int1 (by rfl) T.int (by decide +kernel) (pa_cons (pe_op op_mul (pv 3) (pe_op op_add (pe_op op_fdiv (pv 3) pe_int) pe_int)) pa_nil)) pe_int))
      (pss_cons (ps_set (i := 3) nd rfl (Or.inl rfl) (pe_op op_mod (pe_callTy call_int1 (by rfl) T.int (by decide +kernel) (pa_cons (pe_op op_mul (pv 3) (pe_op op_add (pe_op op_fdiv (pv 3) pe_int) pe_int)) pa_nil)) pe_int))
      (pss_one (ps_ret (pe_op op_mod (pe_callTy call_int1 (by rfl) T.int (by decide +kernel) (pa_cons (pe_op op_fdiv (pv 3) pe_int) pa_nil)) (pv 1))))))))), ?_⟩
    refine ⟨_, rfl, a, _, 0, _, rfl, rfl, .of ha, rfl, _, _, rfl, rfl, _, rfl, ?_⟩
    refine ite2 (fun h0 => ?_) (fun h0 => ?_)
    · refine ⟨_, rfl, a, _, 0, _, rfl, rfl, .of ha, rfl, .inl ⟨_, rfl, _, rfl, _, _, rfl, rfl, hm, ?_⟩⟩
      refine ⟨_, rfl, a, _, 0, _, rfl, rfl, .of ha, rfl, _, rfl, _, _, rfl, rfl, ⟨hm, hm2⟩, _, rfl, a, _, 0, 0, rfl, rfl, ha, rfl, _, rfl, ?_⟩
      refine k _ _ (Int.emod_nonneg _ (by omega)) (Int.emod_lt_of_pos _ hm) ⟨_, _, _, upd_same, h1, h2, h3, by omega⟩ fun b o e n => ?_
      rw [upd_ne n]
      exact e
    · refine ⟨_, rfl, a, _, 2, _, rfl, rfl, .of ha, rfl, _, _, rfl, rfl, _, rfl, a, _, 2, 2, rfl, rfl, ha, rfl, ?_⟩
      have ha2 : (upd H a (.lst ([V.int w0, V.int w1, V.int w2].set 2 (V.int (w2 + 1))))) a = some (.lst [.int w0, .int w1, .int (w2 + 1)]) := upd_same
      refine ⟨_, rfl, a, _, 1, _, rfl, rfl, .of ha2, rfl, _, _, rfl, rfl, .inl ⟨by omega, by omega⟩, _, rfl, a, _, 2, _, rfl, rfl, .of ha2, rfl, _, _, rfl, rfl, .inl ⟨by omega, by omega⟩, _, _, rfl, rfl, _, _, rfl, rfl, .inl ⟨_, rfl, _, _, rfl, rfl, (by show (0 : Int) < 2147483647; decide), ?_⟩⟩
      have g0 := Int.emod_nonneg (w1 * 48619 + (w2 + 1) * 999979 + 60611) (show (2147483647 : Int) ≠ 0 by decide)
      have g1 := Int.emod_lt_of_pos (w1 * 48619 + (w2 + 1) * 999979 + 60611) (show (0 : Int) < 2147483647 by decide)
      generalize (w1 * 48619 + (w2 + 1) * 999979 + 60611) % 2147483647 = x1 at g0 g1
      refine ⟨_, rfl, _, rfl, _, _, rfl, rfl, ⟨by decide, by decide⟩, _, _, rfl, rfl, _, _, rfl, rfl, .inl ⟨by omega, by omega⟩, .inl ⟨_, rfl, _, _, rfl, rfl, (by show (0 : Int) < 2147483629; decide), ?_⟩⟩
      have g2 := Int.emod_nonneg (x1 * (x1 / 1021 + 52081)) (show (2147483629 : Int) ≠ 0 by decide)
      have g3 := Int.emod_lt_of_pos (x1 * (x1 / 1021 + 52081)) (show (0 : Int) < 2147483629 by decide)
      refine ⟨_, rfl, _, rfl, _, _, rfl, rfl, ⟨by decide, by decide⟩, _, _, rfl, rfl, _, _, rfl, rfl, .inl ⟨by omega, by omega⟩, .inl ⟨_, rfl, _, _, rfl, rfl, (by show (0 : Int) < 2147483563; decide), ?_⟩⟩
      refine ⟨_, rfl, _, _, rfl, rfl, ⟨by decide, by decide⟩, .inl ⟨_, rfl, _, rfl, _, _, rfl, rfl, hm, ?_⟩⟩
      refine k _ _ (Int.emod_nonneg _ (by omega)) (Int.emod_lt_of_pos _ hm) ⟨_, _, _, ha2, h1, h2, by omega, by omega⟩ fun b o e n => ?_
      rw [upd_ne n]
      exact e
end
end T34

set_option Elab.async false
set_option linter.all false
set_option maxRecDepth 100000
set_option maxHeartbeats 4000000
/-! SetAny: sorted(s) of a set of ints, up to some thousands of them. -/
namespace L2
open PySem PySem.Spec PyProof.Rows
section
variable {pr : Program} {ww : World} {B : Around} {EE : Value → Shared → Prop} {u0 : Shared}
/-- what is told of the list that comes back -/
structure SetListed (S : Int → Bool) (u0 u1 : Shared) (at_ : Addr) (ms : List Int) : Prop where
  old : ∀ x ob, u0.heap.get? x = some ob → u1.heap.get? x = some ob
  gens : u1.gens = u0.gens
  os : u1.os = u0.os
  new : u0.heap.objs.size ≤ at_
  list : ∃ (arr : Array Value) (ep : Nat), u1.heap.get? at_ = some (seqObj "list" arr ep) ∧ IntsAre arr.toList ms
  rise : ms.Pairwise (· < ·)
  mem : ∀ j, j ∈ ms ↔ S j = true
theorem sortedSet_any {d : Addr} {S : Int → Bool} {m : Nat} {QQ : Value → Shared → Prop} (R : SetR ww u0.heap d S m) (calm : B.handled = none) (few : m < 4000)
    (fin : ∀ u1 at_ ms, SetListed S u0 u1 at_ ms → ms.length = m → QQ (.ref at_) u1) : wpAny (model pr ww) B (call (.builtin "sorted") [.ref d]) QQ EE u0 := by
  obtain ⟨so, ents, epo, tab, r1, r2, r3, good, uniq, isIn, small, fit, num, rising, led⟩ := R
  apply Calls.call_function_entry kind_sorted plain_sorted entry_sorted (args_sorted1 _)
  unfold Builtin.«sorted»
  apply wpAny_bind (m := checkCount "sorted" 1 1 _)
  apply wpAny_pure
  refine wpAny_bind (collect_set (A := B.in1) calm ⟨so, r1, r2.1, r3⟩ fit small rising led fun u1 got keep big ge oe perm => ?_)
  have many : got.length = m := (perm.length_eq.trans (by rw [List.length_map, Array.length_toList])).trans num
  have whole : IntsAre got (got.map Builtin.Re.reRawOf) := by
    apply ints_of got
    intro x hx
    obtain ⟨en, hen, rfl⟩ := List.mem_map.mp (perm.mem_iff.mp hx)
    obtain ⟨j, tj, h1, _⟩ := good en hen
    exact ⟨j, tj, h1⟩
  have fits : got.length ≤ sizeLine := by rw [many, sizeLine_eq]; omega
  refine wpAny_bind (wpAny_newList ?_ fits)
  have here := Heap.get?_push_size (o := seqObj "list" got.toArray 0) u1.heap rfl
  refine wpAny_bind (wpAny_holding (wpAny_call_entry slot_list_sort ⟨_, here, rfl⟩ entry_list_sort (SrtO.list_sort_ord SrtO.swo_int here fits (fun two => SrtO.ints_sortable whole two) fun res q1 q2 => ⟨_, rfl, ?_⟩) (args_list_sort _)))
  obtain ⟨i1, i2, i3⟩ := SrtO.ints_out whole q1 q2
  obtain ⟨ep2, there⟩ := sortedHeap_at (vs := got) (out := res.toArray) here
  have keys := perm.map Builtin.Re.reRawOf
  rw [List.map_map] at keys
  have all := i2.trans keys
  refine wpAny_pure ⟨_, rfl, fin _ u1.heap.objs.size (res.map SrtO.iv) ⟨fun x ob e => ?_, ge, oe, big, ⟨_, ep2, there, i1⟩, lt_of_le_nodup _ i3 (all.nodup_iff.mpr uniq), fun j => (all.mem_iff).trans (isIn j).symm⟩ ?_⟩
  · have e1 := keep x ob e
    have lt := Heap.lt_size e1
    exact (sortedHeap_old (Nat.ne_of_lt lt) (by rw [size_push']; exact Nat.lt_succ_of_lt lt)).trans (Heap.get?_push_of_some _ e1)
  · exact (all.length_eq.trans (by rw [List.length_map, Array.length_toList])).trans num
end
section
variable {X : Cx}
def rSortedSetA (ww : World) : List V → Hp → VK → Prop := fun args H Q => ∃ (d : Addr) (S : Int → Bool) (m : Nat), args = [V.ref d] ∧ H d = some (SetO ww d S m) ∧ m < 4000 ∧
  ∀ (ms : List Int) (q : Addr), ms.Pairwise (· < ·) → (∀ j : Int, j ∈ ms ↔ S j = true) → ms.length = m → H q = none → Q (.ref q) (upd H q (.lst (ms.map V.int)))
theorem cr_sortedSetA (calm : X.calm = true) : CallR X (.builtin "sorted") (rSortedSetA X.w) := by
  intro pins u0 σ H args us Q I r h
  obtain ⟨d, S, m, rfl, hd, few, fin⟩ := h
  rw [Vals.ref1 r]
  refine sortedSet_any (setO_get I hd) (I.ok.hd calm) few fun u1 q ms L hm => ?_
  obtain ⟨arr, ep, hl, hi⟩ := L.list
  have free : H q = none := I.hok.fresh L.new
  have fits : (ms.map V.int).length ≤ sizeLine := by rw [List.length_map, hm, sizeLine_eq]; omega
  obtain ⟨g1, n1, d1, t1, o1⟩ := u1
  have e1 := L.gens
  have e2 := L.os
  simp only at e1 e2
  subst e1 e2
  exact ⟨.ref q, upd H q (.lst (ms.map V.int)), I.call (ch := []) (Un.laid L.old L.new free) (I.hok.laid L.old L.new ⟨fits, arr.toList, ep, vals_of_ints hi, hl⟩) I.bare (fun _ z => nomatch z), rfl, fin ms q L.rise L.mem hm free⟩
end
end L2

set_option Elab.async false
set_option linter.all false
set_option maxRecDepth 100000
set_option maxHeartbeats 4000000
/-! RangeKit: tuple(range(a, b, c)); set(t) of a tuple of ints as a value. -/
namespace L2
open PySem PySem.Spec PyProof.Rows
section
variable {X : Cx} {a b c : Expr} {ta : TA}
/-- n ints from i on, c from one to the next -/
def rgC (i c : Int) (n : Nat) : List Int := (List.range n).map fun k => i + (k : Nat) * c
def tTupRg3 (ta : TA) : TE := fun σ H Q => ta σ H fun vs H1 => ∃ (i j c : Int) (n : Nat), vs = [.int i, .int j, .int c] ∧ RgC i j c n ∧ n ≤ 2 ^ 24 ∧ ∀ q, H1 q = none → Q (.ref q) (upd H1 q (.tup ((rgC i c n).map V.int)))
theorem pe_tupRg3 {p pos p2 pos2 : Pos} (hc : X.calm = true) (hg : Gl X "tuple") (hm : X.mg "tuple" = none) (hg2 : Gl X "range") (hm2 : X.mg "range" = none) (ha : PA X [a, b, c] ta)
    (hs : starEach [a, b, c] X.env = (false, eval a X.env) :: starEach [b, c] X.env := by rfl) (hpl : (backTo pos2 (starEach [b, c] X.env)).any (·.1) = false := by rfl)
    (na : starEach [.Call (.Name "range" p2) [a, b, c] [] pos2] X.env = (false, eval (.Call (.Name "range" p2) [a, b, c] [] pos2) X.env) :: starEach [] X.env := by rfl) :
    PE X (.Call (.Name "tuple" p) [.Call (.Name "range" p2) [a, b, c] [] pos2] [] pos) (tTupRg3 ta) := by
  refine ⟨fun pins s σ H Q I h => ?_⟩
  refine Call_ (ld_blt I hg hm boot_tuple (PyProof.Rows.callWith_type1 (args_cons (Call_ (ld_blt I hg2 hm2 boot_range (PyProof.Rows.callWith_type1 (thn (ha.run pos2 pins s σ H _ I h) fun us s1 ⟨vs, H1, I1, r1, q1⟩ => ?_) hs hpl))) na) na))
  obtain ⟨i, j, k, n, rfl, ⟨hc0, hcn, hsm, hsz⟩, hn, q⟩ := q1
  cases r1 with
  | cons ri r2 =>
  cases r2 with
  | cons rj r3 =>
  cases r3 with
  | cons rk r4 =>
  cases r4
  obtain ⟨t1, rfl⟩ := ri
  obtain ⟨t2, rfl⟩ := rj
  obtain ⟨t3, rfl⟩ := rk
  refine call_range_3 hc0 (args_nil ?_) (hp := Or.inl ?_)
  · have hr : IsRange (s1.heap.push { cls := .type "range", data := .fields #[.int i t1, .int j t2, .int k t3] }) s1.heap.objs.size i j k t1 t2 t3 := IsRange.new _ _ _ _ _ _ _
    have I2 : Inv X pins σ H1 { s1 with heap := s1.heap.push { cls := .type "range", data := .fields #[.int i t1, .int j t2, .int k t3] } } := I1.kept (t' := s1.toks) fun b u e => Heap.get?_push_of_some _ e
    refine call_tuple_range (s := { s1 with heap := s1.heap.push { cls := .type "range", data := .fields #[.int i t1, .int j t2, .int k t3] } }) (n := n) (I2.ok.hd hc) hr hsm hsz hn fun h' tk acc hk hi => ?_
    have I3 : Inv X pins σ H1 { s1 with heap := h', toks := tk } := I2.kept hk
    refine ⟨.ref h'.objs.size, upd H1 h'.objs.size (.tup ((rgC i k n).map V.int)), I3.laid (t' := tk) (fun c o e => Heap.get?_push_of_some _ e) (Nat.le_refl _) (show ObjOk X.prog X.w _ _ _ (.tup ((rgC i k n).map V.int)) from ⟨?_, acc.toList, ?_, ?_⟩), rfl, q _ (I3.hok.fresh (Nat.le_refl _))⟩
    · unfold rgC
      rw [List.length_map, List.length_map, List.length_range, sizeLine_eq]
      omega
    · have e : acc.toList.length = n := by rw [Array.length_toList]; exact hi.1
      unfold rgC
      rw [List.map_map, ← e]
      refine vals_of_get acc.toList _ fun m u hj => ?_
      obtain ⟨t, rfl⟩ := hi.2 m u (by rw [← hj, Array.getElem?_toList])
      exact ⟨t, rfl⟩
    · rw [Array.toArray_toList]
      exact IsTup.new _ _
  · exact PyProof.noPylong_small (by omega)
/-- set(t) of a tuple of ints -/
def rSetI (K : PySem.W.Frag) (w : World) : List V → Hp → VK → Prop := fun xs H Q => ∃ (p : Addr) (ns : List Int), xs = [.ref p] ∧ SqT K H p (ns.map V.int) ∧ ns.length ≤ 1000 ∧
  ∀ (q : Addr) (m : Nat), m ≤ ns.length → H q = none → Q (.ref q) (upd H q (SetO w q (fun j => decide (j ∈ ns)) m))
theorem cr_setI (hc : X.calm = true) : CallR X (.type "set") (rSetI X.K X.w) := by
  intro pins s σ H xs us Q I r h
  obtain ⟨p0, ns, rfl, hq, hl, q⟩ := h
  obtain ⟨u, rfl, ru⟩ := vals1 r
  obtain rfl : u = Value.ref p0 := ru
  obtain ⟨its, rv, pt, hz⟩ := I.tuple hq
  have hi : IntsAre its.toArray.toList ns := ints_of_vals rv
  refine call_set_tupI ns (I.ok.hd hc) (show s.heap.IsTuple p0 its.toArray from pt) hi (by unfold scanBound; omega) fun h' tk c R1 hcn k => ?_
  exact ⟨.ref _, upd H s.heap.objs.size (SetO X.w s.heap.objs.size (fun j => decide (j ∈ ns)) c), I.laid (t' := tk) k (Nat.le_refl _) (setO_new R1), rfl, q _ _ hcn (I.hok.fresh (Nat.le_refl _))⟩
end
end L2
namespace L2
open PySem PySem.Spec PyProof.Rows
theorem RgC.up {i j c : Int} (hc : 0 < c) (hc2 : c < 1073741824) (h1 : 0 ≤ i) (h2 : i ≤ 1073741824) (h3 : 0 ≤ j) (h4 : j ≤ 1073741824) : RgC i j c (Builtin.Range.rangeSize i j c).toNat := by
  refine ⟨by omega, by omega, ?_, PyProof.Rows.rangeSize_toNat i j c⟩
  have hn := PyProof.Rows.rangeSize_toNat i j c
  have hl := PyProof.Rows.rangeSize_toNat_le i j c
  unfold Builtin.Range.small
  simp only [Builtin.Range.rangeFitsLong, Bool.and_eq_true, Bool.or_eq_true, decide_eq_true_eq, beq_iff_eq, show c > 0 from hc, if_true]
  omega
/-- zip(t, u) of tuples -/
theorem walk_zipT {K : PySem.W.Frag} {a b : Addr} {xs ys : List V} {n : Nat} (hn : n = min xs.length ys.length) : Walk (RZ.ItzT K a b) n (fun H => SqT K H a xs ∧ SqT K H b ys) (YPair (fun i => xs[i]?) (fun i => ys[i]?)) := by
  subst hn
  refine ⟨fun i _ hi q => ?_, fun _ q => ⟨xs, ys, q.1, q.2, by omega⟩, fun i H v H' _ q y => ?_⟩
  · have h1 : i < xs.length := by omega
    have h2 : i < ys.length := by omega
    exact ⟨xs, ys, xs[i], ys[i], q.1, q.2, by simp [h1], by simp [h2]⟩
  · obtain ⟨T, x, z, h1, h2, h3, h4, h5⟩ := y
    exact ⟨T, x, z, h1, h2, h3, h4 xs q.1, h5 ys q.2⟩
end L2

set_option Elab.async false
set_option linter.all false
set_option maxRecDepth 100000
set_option maxHeartbeats 4000000
namespace L2
open PySem EK
theorem alloc {H : Hp} {p : Addr} {o : HO} (hp : H p = none) : ∃ H1, upd H p o = H1 ∧ Same H H1 ∧ H1 p = some o :=
  ⟨_, rfl, fun b u e => by rw [upd_ne (ne_of_none e hp)]; exact e, upd_same⟩
/-- an error of the class at C stands at a, its one value v -/
def ErrAt (H : Hp) (a d C : Addr) (f : Str) (v : V) : Prop := H a = some (exo a C (some d)) ∧ H d = some (exd d [(f, v)])
theorem ErrAt.keep {H H' : Hp} {a d C : Addr} {f : Str} {v : V} (e : ErrAt H a d C f v) (s : Same H H') : ErrAt H' a d C f v := ⟨s _ _ e.1, s _ _ e.2⟩
theorem alloc_err {H : Hp} {a d C : Addr} {f : Str} {v : V} (ha : H a = none) (hd : H d = none) (hne : d ≠ a) : ∃ H1, upd (upd H d (exd d [(f, v)])) a (exo a C (some d)) = H1 ∧ Same H H1 ∧ ErrAt H1 a d C f v :=
  ⟨_, rfl, fun b u e => by rw [upd_ne (ne_of_none e ha), upd_ne (ne_of_none e hd)]; exact e, upd_same, by rw [upd_ne hne, upd_same]⟩
theorem look1 (f : Str) (v : V) : List.lookup f [(f, v)] = some v := by rw [lookup_put, if_pos rfl]
theorem _root_.EK.ErrTxt.xf {P : Program} {K : PySem.W.Frag} {mg : Str → Option Value} {x f : Str} {C fI : Addr} (T : ErrTxt P K mg x f C fI) : XfC K C := ⟨T.ga, T.gg, T.exC, T.hdC⟩
end L2

set_option Elab.async false
set_option linter.all false
set_option maxRecDepth 100000
set_option maxHeartbeats 4000000
/-! LcKit: comprehensions whose items are known one by one. -/
namespace L2
open PySem
/-- all but the lists stay -/
def KeepL (H H' : Hp) : Prop := ∀ b o, H b = some o → (∀ l, o ≠ .lst l) → H' b = some o
theorem KeepL.of {H H' : Hp} (s : ∀ b o, H b = some o → H' b = some o) : KeepL H H' := fun b o e _ => s b o e
theorem KeepL.trans {H H1 H2 : Hp} (s : KeepL H H1) (t : KeepL H1 H2) : KeepL H H2 := fun b o e n => t b o (s b o e n) n
inductive All2 {α β : Type} (R : α → β → Prop) : List α → List β → Prop
  | nil : All2 R [] []
  | cons {x : α} {z : β} {xs : List α} {zs : List β} (h : R x z) (t : All2 R xs zs) : All2 R (x :: xs) (z :: zs)
section
variable {α β : Type} {R : α → β → Prop}
theorem All2.length {xs : List α} {zs : List β} (h : All2 R xs zs) : xs.length = zs.length := by
  induction h with
  | nil => rfl
  | cons _ _ ih => rw [List.length_cons, List.length_cons, ih]
theorem All2.get {xs : List α} {zs : List β} (h : All2 R xs zs) {i : Nat} {x : α} (e : xs[i]? = some x) : ∃ z, zs[i]? = some z ∧ R x z := by
  induction h generalizing i with
  | nil => cases e
  | cons h t ih =>
    cases i with
    | zero => cases e; exact ⟨_, rfl, h⟩
    | succ i => exact ih e
theorem All2.getR {xs : List α} {zs : List β} (h : All2 R xs zs) {i : Nat} {z : β} (e : zs[i]? = some z) : ∃ x, xs[i]? = some x ∧ R x z := by
  induction h generalizing i with
  | nil => cases e
  | cons h t ih =>
    cases i with
    | zero => cases e; exact ⟨_, rfl, h⟩
    | succ i => exact ih e
theorem All2.append {xs ys : List α} {zs ws : List β} (h : All2 R xs zs) (g : All2 R ys ws) : All2 R (xs ++ ys) (zs ++ ws) := by
  induction h with
  | nil => exact g
  | cons h t ih => exact .cons h ih
theorem All2.mono {S : α → β → Prop} {xs : List α} {zs : List β} (h : All2 R xs zs) (m : ∀ x z, z ∈ zs → R x z → S x z) : All2 S xs zs := by
  induction h with
  | nil => exact .nil
  | cons h t ih => exact .cons (m _ _ List.mem_cons_self h) (ih fun x z hz r => m x z (List.mem_cons_of_mem _ hz) r)
theorem All2.drop {xs : List α} {zs : List β} (h : All2 R xs zs) : ∀ k : Nat, All2 R (xs.drop k) (zs.drop k)
  | 0 => h
  | k + 1 => by
    cases h with
    | nil => exact .nil
    | cons h t => exact t.drop k
theorem All2.take {xs : List α} {zs : List β} (h : All2 R xs zs) : ∀ k : Nat, All2 R (xs.take k) (zs.take k)
  | 0 => .nil
  | k + 1 => by
    cases h with
    | nil => exact .nil
    | cons h t => exact .cons h (t.take k)
theorem All2.map {γ : Type} {f : γ → α} {g : γ → β} : ∀ {cs : List γ}, (∀ c ∈ cs, R (f c) (g c)) → All2 R (cs.map f) (cs.map g)
  | [], _ => .nil
  | c :: cs, h => .cons (h c List.mem_cons_self) (All2.map fun d hd => h d (List.mem_cons_of_mem _ hd))
theorem All2.mem {xs : List α} {zs : List β} (h : All2 R xs zs) {x : α} (e : x ∈ xs) : ∃ z, z ∈ zs ∧ R x z := by
  obtain ⟨i, hi⟩ := List.mem_iff_getElem?.mp e
  obtain ⟨z, hz, r⟩ := h.get hi
  exact ⟨z, List.mem_of_getElem? hz, r⟩
/-- values that are told by what they are -/
theorem All2.eq_map {f : β → α} {xs : List α} {zs : List β} (h : All2 (fun x z => x = f z) xs zs) : xs = zs.map f := by
  induction h with
  | nil => rfl
  | cons h t ih => rw [List.map_cons, h, ih]
theorem All2.of_map {f : β → α} : ∀ zs : List β, All2 (fun x z => x = f z) (zs.map f) zs
  | [] => .nil
  | z :: zs => .cons rfl (All2.of_map zs)
end
theorem filter_take_succ {β γ : Type} {zs : List β} {i : Nat} {z : β} (e : zs[i]? = some z) (t : β → Bool) (f : β → γ) : ((zs.take (i + 1)).filter t).map f = ((zs.take i).filter t).map f ++ (if t z = true then [f z] else []) := by
  rw [List.take_succ, e, List.filter_append, List.map_append]
  congr 1
  by_cases h : t z = true
  · rw [if_pos h]
    simp [h]
  · rw [if_neg h]
    simp [h]
section
variable {K : PySem.W.Frag} {g : TG} {tt : TT} {te : TE} {vs : List Nat} {σ : St} {H1 : Hp} {D : Addr} {Qd : Hp → Prop} {α β : Type} {zs : List α} {R : Hp → V → α → Prop} {R' : Hp → V → β → Prop}
theorem sqT_same {H H' : Hp} {a : Addr} {xs : List V} (e : ∀ b o, H b = some o → H' b = some o) (h : SqT K H a xs) : SqT K H' a xs :=
  h.elim (fun h => .inl (h.elim (fun h => .inl (e _ _ h)) fun ⟨o, h⟩ => .inr ⟨o, e _ _ h⟩)) fun h => .inr h
theorem sqL_same {H H' : Hp} {a : Addr} {xs : List V} (e : ∀ b o, H b = some o → H' b = some o) (h : SqL K H a xs) : SqL K H' a xs :=
  h.elim (fun h => .inl (h.elim (fun h => .inl (e _ _ h)) fun ⟨o, h⟩ => .inr ⟨o, e _ _ h⟩)) fun h => .inr h
/-- one turn's wish -/
def LcP (H1 : Hp) (D : Addr) (R' : Hp → V → β → Prop) (zs : List α) (t : α → Bool) (f : α → β) (i : Nat) (H : Hp) : Prop := (∀ b o, H1 b = some o → H b = some o) ∧ ∃ ys, H D = some (.lst ys) ∧ All2 (R' H) ys (((zs.take i).filter t).map f)
theorem lcP_put {t : α → Bool} {f : α → β} {i : Nat} {z : α} {H H4 : Hp} {y : V} (hD : H1 D = none) (mR' : ∀ H H' x z, KeepL H H' → R' H x z → R' H' x z) (hz : zs.length < sizeLine) (e : zs[i]? = some z) (p : LcP H1 D R' zs t f i H) (ht : t z = true)
    (s : ∀ b o, H b = some o → H4 b = some o) (r : R' H4 y (f z)) : ∃ acc, H4 D = some (.lst acc) ∧ acc.length < sizeLine ∧ LcP H1 D R' zs t f (i + 1) (upd H4 D (.lst (acc ++ [y]))) := by
  obtain ⟨s1, ys, hd, a⟩ := p
  have kl : KeepL H4 (upd H4 D (.lst (ys ++ [y]))) := fun b o e n => by
    rw [upd_ne (fun q => by subst q; rw [s _ _ hd] at e; cases e; exact n _ rfl)]
    exact e
  have hlen := a.length
  rw [List.length_map] at hlen
  have h1 : ((zs.take i).filter t).length ≤ zs.length := Nat.le_trans (List.length_filter_le _ _) (by rw [List.length_take]; omega)
  refine ⟨ys, s _ _ hd, by omega, fun b o e => ?_, _, upd_same, ?_⟩
  · rw [upd_ne (ne_of_none e hD)]
    exact s _ _ (s1 _ _ e)
  · rw [filter_take_succ e, if_pos ht]
    exact (a.mono fun x z _ r => mR' _ _ _ _ kl (mR' _ _ _ _ (.of s) r)).append (.cons (mR' _ _ _ _ kl r) .nil)
theorem lcP_skip {t : α → Bool} {f : α → β} {i : Nat} {z : α} {H H3 : Hp} (mR' : ∀ H H' x z, KeepL H H' → R' H x z → R' H' x z) (e : zs[i]? = some z) (p : LcP H1 D R' zs t f i H) (ht : t z = false)
    (s : ∀ b o, H b = some o → H3 b = some o) : LcP H1 D R' zs t f (i + 1) H3 := by
  obtain ⟨s1, ys, hd, a⟩ := p
  refine ⟨fun b o e => s _ _ (s1 _ _ e), ys, s _ _ hd, ?_⟩
  rw [filter_take_succ e, if_neg (by rw [ht]; simp), List.append_nil]
  exact a.mono fun x z _ r => mR' _ _ _ _ (.of s) r
theorem lcP_zero {t : α → Bool} {f : α → β} (hD : H1 D = none) : LcP H1 D R' zs t f 0 (upd H1 D (.lst [])) := ⟨fun b o e => by rw [upd_ne (ne_of_none e hD)]; exact e, [], upd_same, .nil⟩
/-- over a list whose items are known -/
theorem lcM_list {a : Addr} {xs : List V} (t : α → Bool) (f : α → β) (hD : H1 D = none) (hS : SqL K H1 a xs) (hx : All2 (R H1) xs zs) (mR : ∀ H H' x z, (∀ b o, H b = some o → H' b = some o) → R H x z → R H' x z) (mR' : ∀ H H' x z, KeepL H H' → R' H x z → R' H' x z) (hz : zs.length < sizeLine)
    (step : ∀ (i : Nat) (x : V) (z : α) (H : Hp) (C : V → Hp → Prop) (C0 : Hp → Prop), zs[i]? = some z → (∀ b o, H1 b = some o → H b = some o) → R H x z →
      (t z = true → ∀ y H4, (∀ b o, H b = some o → H4 b = some o) → R' H4 y (f z) → C y H4) → (t z = false → ∀ H3, (∀ b o, H b = some o → H3 b = some o) → C0 H3) →
      g x (wipe σ vs) H fun σ2 H2 => wipe σ2 vs = wipe σ vs ∧ tt σ2 H2 fun b H3 => if b = true then te σ2 H3 C else C0 H3)
    (fin : ∀ ys H, (∀ b o, H1 b = some o → H b = some o) → H D = some (.lst ys) → All2 (R' H) ys ((zs.filter t).map f) → Qd H) :
    ∃ W : Nat → Nat → Hp → Prop, (∃ m, W 0 m (upd H1 D (.lst []))) ∧ ∀ i m H, W i m H →
      ((Itl K a).stop i H ∧ Qd H) ∨ ((Itl K a).go i H ∧ ∃ Nx : Hp → Prop, (∀ H', Nx H' → ∃ m', m' < m ∧ W (i + 1) m' H') ∧ ∀ x H', (Itl K a).yld i H x H' → g x (wipe σ vs) H' fun σ2 H2 => wipe σ2 vs = wipe σ vs ∧ tt σ2 H2 fun b H3 =>
        if b = true then te σ2 H3 fun y H4 => ∃ acc, H4 D = some (.lst acc) ∧ acc.length < sizeLine ∧ Nx (upd H4 D (.lst (acc ++ [y]))) else Nx H3) := by
  have el := hx.length
  refine lc_list (xs := xs) (LcP H1 D R' zs t f) (lcP_zero hD) (fun i H _ p => sqL_same p.1 hS) (fun i x H hi p => ?_) (fun H p => ?_)
  · obtain ⟨z, e, r⟩ := hx.get hi
    exact step i x z H _ _ e p.1 (mR _ _ _ _ p.1 r) (fun ht y H4 s r => lcP_put hD mR' hz e p ht s r) (fun ht H3 s => lcP_skip mR' e p ht s)
  · obtain ⟨s1, ys, hd, a2⟩ := p
    rw [el, List.take_length] at a2
    exact fin ys H s1 hd a2
/-- over a tuple -/
theorem lcM_tup {a : Addr} {xs : List V} (t : α → Bool) (f : α → β) (hD : H1 D = none) (hS : SqT K H1 a xs) (hx : All2 (R H1) xs zs) (mR : ∀ H H' x z, (∀ b o, H b = some o → H' b = some o) → R H x z → R H' x z) (mR' : ∀ H H' x z, KeepL H H' → R' H x z → R' H' x z) (hz : zs.length < sizeLine)
    (step : ∀ (i : Nat) (x : V) (z : α) (H : Hp) (C : V → Hp → Prop) (C0 : Hp → Prop), zs[i]? = some z → (∀ b o, H1 b = some o → H b = some o) → R H x z →
      (t z = true → ∀ y H4, (∀ b o, H b = some o → H4 b = some o) → R' H4 y (f z) → C y H4) → (t z = false → ∀ H3, (∀ b o, H b = some o → H3 b = some o) → C0 H3) →
      g x (wipe σ vs) H fun σ2 H2 => wipe σ2 vs = wipe σ vs ∧ tt σ2 H2 fun b H3 => if b = true then te σ2 H3 C else C0 H3)
    (fin : ∀ ys H, (∀ b o, H1 b = some o → H b = some o) → H D = some (.lst ys) → All2 (R' H) ys ((zs.filter t).map f) → Qd H) :
    ∃ W : Nat → Nat → Hp → Prop, (∃ m, W 0 m (upd H1 D (.lst []))) ∧ ∀ i m H, W i m H →
      ((Itt K a).stop i H ∧ Qd H) ∨ ((Itt K a).go i H ∧ ∃ Nx : Hp → Prop, (∀ H', Nx H' → ∃ m', m' < m ∧ W (i + 1) m' H') ∧ ∀ x H', (Itt K a).yld i H x H' → g x (wipe σ vs) H' fun σ2 H2 => wipe σ2 vs = wipe σ vs ∧ tt σ2 H2 fun b H3 =>
        if b = true then te σ2 H3 fun y H4 => ∃ acc, H4 D = some (.lst acc) ∧ acc.length < sizeLine ∧ Nx (upd H4 D (.lst (acc ++ [y]))) else Nx H3) := by
  have el := hx.length
  refine lc_tup (xs := xs) (LcP H1 D R' zs t f) (lcP_zero hD) (fun i H _ p => sqT_same p.1 hS) (fun i x H hi p => ?_) (fun H p => ?_)
  · obtain ⟨z, e, r⟩ := hx.get hi
    exact step i x z H _ _ e p.1 (mR _ _ _ _ p.1 r) (fun ht y H4 s r => lcP_put hD mR' hz e p ht s r) (fun ht H3 s => lcP_skip mR' e p ht s)
  · obtain ⟨s1, ys, hd, a2⟩ := p
    rw [el, List.take_length] at a2
    exact fin ys H s1 hd a2
/-- over a range -/
theorem lcM_range {lo : Int} {n : Nat} (t : Nat → Bool) (f : Nat → β) (hD : H1 D = none) (mR' : ∀ H H' x z, KeepL H H' → R' H x z → R' H' x z) (hz : n < sizeLine)
    (step : ∀ (i : Nat) (H : Hp) (C : V → Hp → Prop) (C0 : Hp → Prop), i < n → (∀ b o, H1 b = some o → H b = some o) →
      (t i = true → ∀ y H4, (∀ b o, H b = some o → H4 b = some o) → R' H4 y (f i) → C y H4) → (t i = false → ∀ H3, (∀ b o, H b = some o → H3 b = some o) → C0 H3) →
      g (.int (lo + i)) (wipe σ vs) H fun σ2 H2 => wipe σ2 vs = wipe σ vs ∧ tt σ2 H2 fun b H3 => if b = true then te σ2 H3 C else C0 H3)
    (fin : ∀ ys H, (∀ b o, H1 b = some o → H b = some o) → H D = some (.lst ys) → All2 (R' H) ys (((List.range n).filter t).map f) → Qd H) :
    ∃ W : Nat → Nat → Hp → Prop, (∃ m, W 0 m (upd H1 D (.lst []))) ∧ ∀ i m H, W i m H →
      ((Itr lo n).stop i H ∧ Qd H) ∨ ((Itr lo n).go i H ∧ ∃ Nx : Hp → Prop, (∀ H', Nx H' → ∃ m', m' < m ∧ W (i + 1) m' H') ∧ ∀ x H', (Itr lo n).yld i H x H' → g x (wipe σ vs) H' fun σ2 H2 => wipe σ2 vs = wipe σ vs ∧ tt σ2 H2 fun b H3 =>
        if b = true then te σ2 H3 fun y H4 => ∃ acc, H4 D = some (.lst acc) ∧ acc.length < sizeLine ∧ Nx (upd H4 D (.lst (acc ++ [y]))) else Nx H3) := by
  refine lc_range (LcP H1 D R' (List.range n) t f) (lcP_zero hD) (fun i H hi p => ?_) (fun H p => ?_)
  · have e : (List.range n)[i]? = some i := List.getElem?_range hi
    exact step i H _ _ hi p.1 (fun ht y H4 s r => lcP_put hD mR' (by rw [List.length_range]; exact hz) e p ht s r) (fun ht H3 s => lcP_skip mR' e p ht s)
  · obtain ⟨s1, ys, hd, a2⟩ := p
    have e2 : (List.range n).take n = List.range n := List.take_of_length_le (by rw [List.length_range]; exact Nat.le_refl _)
    rw [e2] at a2
    exact fin ys H s1 hd a2
end
end L2

set_option Elab.async false
set_option linter.all false
set_option maxRecDepth 100000
set_option maxHeartbeats 4000000
/-! DataKit: sorted, min of data at any depth and length, as rules of the layer. -/
namespace L2
open PySem PySem.Spec PyProof.Rows
section
variable {X : Cx} {pins : List (Addr × Obj)} {σ : St} {H : Hp} {s : Shared}
theorem each_vals (I : Inv X pins σ H s) : ∀ {bs : List (V × PyData)} {us : List Value}, Vals (bs.map (·.1)) us → (∀ b ∈ bs, Dp X.K H b.1 b.2) → PySem.W.EachIs (fun v b => RelV b.1 v) us bs ∧ PySem.W.EachIs (fun v b => ∃ as, Reads s.heap v b.2 as) us bs
  | [], _, r, _ => by
    cases r
    exact ⟨.nil, .nil⟩
  | b :: bs, _, r, h => by
    cases r with
    | cons r1 r2 =>
      obtain ⟨e1, e2⟩ := each_vals I r2 fun c hc => h c (List.mem_cons_of_mem _ hc)
      exact ⟨.cons r1 e1, .cons (Dp.reads I _ _ _ (h b List.mem_cons_self) r1) e2⟩
theorem vals_each : ∀ {us : List Value} {bs : List (V × PyData)}, PySem.W.EachIs (fun v b => RelV b.1 v) us bs → Vals (bs.map (·.1)) us
  | _, _, .nil => .nil
  | _, _, .cons r t => .cons r (vals_each t)
/-- sorted(xs) of data that are alike -/
def rSortedD (K : PySem.W.Frag) : List V → Hp → VK → Prop := fun vs H Q => ∃ (a : Addr) (bs : List (V × PyData)), vs = [V.ref a] ∧ SqL K H a (bs.map (·.1)) ∧ (∀ b ∈ bs, Dp K H b.1 b.2) ∧ PySem.W.AllAlike (bs.map (·.2)) ∧ PySem.W.Sortable (bs.map (·.2)) ∧ (∀ b ∈ bs, b.2.depth ≤ 50) ∧
  ∀ p, H p = none → Q (.ref p) (upd H p (.lst ((bs.mergeSort (PySem.W.dataLe false (·.2))).map (·.1))))
theorem cr_sortedD (hu : X.A.units + 64 < cLine) : CallR X (.builtin "sorted") (rSortedD X.K) := by
  intro pins s σ H vs us Q I r h
  obtain ⟨a, bs, rfl, hs, hd, hal, hk, hdep, q⟩ := h
  obtain ⟨its, rv, hl, hz⟩ := I.list hs
  obtain ⟨u, rfl, ru⟩ := vals1 r
  obtain rfl : u = Value.ref a := ru
  obtain ⟨e1, e2⟩ := each_vals I rv hd
  rw [List.length_map] at hz
  refine PySem.W.sorted_data (enc := fun b : V × PyData => b.2) hl.isList e1 e2 hal hk hz (fun b hb => by have := hdep b hb; omega) fun out hlen ho => ?_
  obtain ⟨n, hn⟩ := sortedAll_at s.heap its out.toArray
  have rv2 := vals_each ho
  exact ⟨.ref (s.heap.objs.size + 1), _, I.laid (t' := s.toks) (a := s.heap.objs.size + 1) (o := .lst ((bs.mergeSort (PySem.W.dataLe false (·.2))).map (·.1))) (fun b o e => sortedAll_old e) (Nat.le_succ _) ⟨by rw [rv2.length, hlen]; exact hz, out, n, rv2, hn⟩, rfl, q _ (I.hok.fresh (Nat.le_succ _))⟩
/-- min(xs) of texts, one at least -/
def minS (x : Str) (xs : List Str) : Str := xs.foldl (fun a y => if decide (y.cps.toList < a.cps.toList) = true then y else a) x
theorem minD_strs (x : Str) : ∀ xs : List Str, PySem.W.minD (.str x) (xs.map PyData.str) = .str (minS x xs) := by
  intro xs
  induction xs generalizing x with
  | nil => rfl
  | cons y ys ih =>
    show PySem.W.minD (if PySem.W.dataLt (.str y) (.str x) = true then .str y else .str x) (ys.map PyData.str) = .str (minS (if decide (y.cps.toList < x.cps.toList) = true then y else x) ys)
    rw [PySem.W.dataLt_str]
    split
    · exact ih y
    · exact ih x
theorem reads_strs {h : Heap} : ∀ {xs : List Str} {us : List Value}, Vals (xs.map V.str) us → ∃ as, ReadsAll h us (xs.map PyData.str) as
  | [], _, r => by
    cases r
    exact ⟨_, .nil⟩
  | x :: xs, _, r => by
    cases r with
    | cons r1 r2 =>
      obtain ⟨t, rfl⟩ := r1
      obtain ⟨as, z⟩ := reads_strs (h := h) r2
      exact ⟨_, .cons (.str x t) z⟩
theorem depth_strs : ∀ xs : List Str, PyData.depthAll (xs.map PyData.str) ≤ 1
  | [] => by simp [PyData.depthAll]
  | x :: xs => by
    have := depth_strs xs
    simp only [List.map_cons, PyData.depthAll, PyData.depth]
    omega
def rMinS (K : PySem.W.Frag) : List V → Hp → VK → Prop := fun vs H Q => ∃ (a : Addr) (x : Str) (xs : List Str), vs = [V.ref a] ∧ SqL K H a ((x :: xs).map V.str) ∧ Q (.str (minS x xs)) H
theorem cr_minS (hc : X.calm = true) (hu : X.A.units + 64 < cLine) : CallR X (.builtin "min") (rMinS X.K) := by
  intro pins s σ H vs us Q I r h
  obtain ⟨a, x, xs, rfl, hs, q⟩ := h
  obtain ⟨its, rv, hl, hz⟩ := I.list hs
  obtain ⟨u, rfl, ru⟩ := vals1 r
  obtain rfl : u = Value.ref a := ru
  obtain ⟨as, hr⟩ := reads_strs (h := s.heap) rv
  have hdep := depth_strs (x :: xs)
  refine PySem.W.min_list_data (x := .str x) (xs := xs.map PyData.str) (I.ok.hd hc) hl.isList (by simpa using hr) ⟨fun y hy z hz => ?_, fun y hy => ?_⟩ (by have : PyData.depthAll (PyData.str x :: xs.map PyData.str) ≤ 1 := hdep; omega) fun i v h' tk bs hv hrd hk => ?_
  · obtain ⟨y', _, rfl⟩ := List.mem_map.mp (show y ∈ (x :: xs).map PyData.str from hy)
    obtain ⟨z', _, rfl⟩ := List.mem_map.mp (show z ∈ (x :: xs).map PyData.str from hz)
    simp [PySem.W.alike]
  · obtain ⟨y', _, rfl⟩ := List.mem_map.mp (show y ∈ (x :: xs).map PyData.str from hy)
    exact fun z => nomatch z
  · rw [minD_strs] at hrd
    cases hrd with
    | str _ t => exact ⟨.str (minS x xs), H, I.kept (t' := tk) hk, ⟨t, rfl⟩, q⟩
end
end L2

set_option Elab.async false
set_option linter.all false
set_option maxRecDepth 100000
set_option maxHeartbeats 4000000
/-! SortKit: a list put in order, as a plain function that evaluates. -/
namespace L2
open PySem
section
variable {α : Type} (le : α → α → Bool)
def ins (a : α) : List α → List α
  | [] => [a]
  | b :: r => if le a b = true then a :: b :: r else b :: ins a r
def isort : List α → List α
  | [] => []
  | a :: r => ins le a (isort r)
theorem ins_perm (a : α) : ∀ l, (ins le a l).Perm (a :: l)
  | [] => .refl _
  | b :: r => by
    unfold ins
    split
    · exact .refl _
    · exact ((ins_perm a r).cons b).trans (.swap a b r)
theorem isort_perm : ∀ l, (isort le l).Perm l
  | [] => .refl _
  | a :: r => (ins_perm le a _).trans ((isort_perm r).cons a)
variable (trans : ∀ x y z, le x y = true → le y z = true → le x z = true) (total : ∀ x y, (le x y || le y x) = true)
include trans total
theorem ins_sorted (a : α) : ∀ {l : List α}, l.Pairwise (fun x y => le x y = true) → (ins le a l).Pairwise (fun x y => le x y = true)
  | [], _ => List.pairwise_singleton _ _
  | b :: r, h => by
    obtain ⟨h1, h2⟩ := List.pairwise_cons.mp h
    unfold ins
    split
    · rename_i q
      refine List.pairwise_cons.mpr ⟨fun c hc => ?_, h⟩
      rcases List.mem_cons.mp hc with rfl | hc
      · exact q
      · exact trans _ _ _ q (h1 c hc)
    · rename_i q
      refine List.pairwise_cons.mpr ⟨fun c hc => ?_, ins_sorted a h2⟩
      have hc2 := (ins_perm le a r).mem_iff.mp hc
      rcases List.mem_cons.mp hc2 with rfl | hc2
      · have t := total c b
        rw [Bool.or_eq_true] at t
        exact t.resolve_left q
      · exact h1 c hc2
theorem isort_sorted : ∀ l : List α, (isort le l).Pairwise (fun x y => le x y = true)
  | [] => List.Pairwise.nil
  | a :: r => ins_sorted le trans total a (isort_sorted r)
omit trans total in
theorem sorted_uniq : ∀ {l m : List α}, (∀ x ∈ l, ∀ y ∈ l, le x y = true → le y x = true → x = y) → l.Perm m → l.Pairwise (fun x y => le x y = true) → m.Pairwise (fun x y => le x y = true) → l = m
  | [], m, _, p, _, _ => by rw [List.nil_perm.mp p]
  | a :: l, m, an, p, h1, h2 => by
    cases m with
    | nil => exact absurd p.length_eq (by simp)
    | cons b m =>
      obtain ⟨s1, s2⟩ := List.pairwise_cons.mp h1
      obtain ⟨t1, t2⟩ := List.pairwise_cons.mp h2
      have e : a = b := by
        have ha : a ∈ b :: m := p.mem_iff.mp List.mem_cons_self
        have hb : b ∈ a :: l := p.mem_iff.mpr List.mem_cons_self
        rcases List.mem_cons.mp ha with e | ha
        · exact e
        rcases List.mem_cons.mp hb with e | hb2
        · exact e.symm
        exact an _ List.mem_cons_self _ hb (s1 b hb2) (t1 a ha)
      subst e
      rw [sorted_uniq (fun x hx y hy => an x (List.mem_cons_of_mem _ hx) y (List.mem_cons_of_mem _ hy)) p.cons_inv s2 t2]
theorem msort_isort (l : List α) (an : ∀ x ∈ l, ∀ y ∈ l, le x y = true → le y x = true → x = y) : l.mergeSort le = isort le l := by
  refine sorted_uniq le (fun x hx y hy => an x ((List.mergeSort_perm l le).mem_iff.mp hx) y ((List.mergeSort_perm l le).mem_iff.mp hy)) ((List.mergeSort_perm l le).trans (isort_perm le l).symm) ?_ (isort_sorted le trans total l)
  exact List.pairwise_mergeSort (fun a b c => trans a b c) (fun a b => total a b) l
end
/-- a sign and its place, as data -/
def skey (cs : List Nat) (i : Nat) : PyData := .tuple [.str ⟨#[cs.getD i 0]⟩, .int i]
/-- a pair of an address and its place, by sign and place -/
def dle {β : Type} (k : β → PyData) : β → β → Bool := PySem.W.dataLe false k
theorem dle_trans {β : Type} (k : β → PyData) (x y z : β) (h1 : dle k x y = true) (h2 : dle k y z = true) : dle k x z = true := (PySem.W.sortLe_total (PyProof.Rows.listOrd PyProof.Rows.itemOrd) false fun b => PySem.W.keyToks (k b)).trans x y z h1 h2
theorem dle_total {β : Type} (k : β → PyData) (x y : β) : (dle k x y || dle k y x) = true := by
  rw [Bool.or_eq_true]
  exact (PySem.W.sortLe_total (PyProof.Rows.listOrd PyProof.Rows.itemOrd) false fun b => PySem.W.keyToks (k b)).total x y
theorem dle_anti {β : Type} {k : β → PyData} {x y : β} (h1 : dle k x y = true) (h2 : dle k y x = true) : PySem.W.keyToks (k x) = PySem.W.keyToks (k y) := by
  have e1 : (!(PyProof.Rows.listOrd PyProof.Rows.itemOrd).blt (PySem.W.keyToks (k y)) (PySem.W.keyToks (k x))) = true := h1
  have e2 : (!(PyProof.Rows.listOrd PyProof.Rows.itemOrd).blt (PySem.W.keyToks (k x)) (PySem.W.keyToks (k y))) = true := h2
  rw [Bool.not_eq_true'] at e1 e2
  exact (PyProof.Rows.listOrd PyProof.Rows.itemOrd).total _ _ e2 e1
/-- the places in the order of their signs -/
def ordI (cs : List Nat) : List Nat := isort (dle (skey cs)) (List.range cs.length)
theorem skey_inj {cs ds : List Nat} {i j : Nat} (h : PySem.W.keyToks (skey cs i) = PySem.W.keyToks (skey ds j)) : i = j := by
  have e1 : ∀ (es : List Nat) (n : Nat), PySem.W.keyToks (skey es n) = [.inl 1, .inr [es.getD n 0], .inl 1, .inl n, .inl 0] := fun es n => by
    simp [skey, PySem.W.keyToks, PySem.W.keyToksAll]
  rw [e1, e1] at h
  injection h with _ h
  injection h with _ h
  injection h with _ h
  injection h with h _
  injection h with h
  exact Int.ofNat.inj h
/-- the pairs at their places, put in order: as ordI says -/
theorem sort_pairs (cs : List Nat) (bs : List (V × PyData)) (f : Nat → Addr) (e : bs = (List.range cs.length).map fun i => (V.ref (f i), skey cs i)) :
    (bs.mergeSort (PySem.W.dataLe false (·.2))).map (·.1) = (ordI cs).map fun i => V.ref (f i) := by
  have h1 := List.map_mergeSort (f := fun i : Nat => (V.ref (f i), skey cs i)) (r := dle (skey cs)) (s := PySem.W.dataLe false (·.2)) (l := List.range cs.length) fun a _ b _ => rfl
  rw [e, ← h1, List.map_map, msort_isort (dle (skey cs)) (dle_trans _) (dle_total _) _ fun x _ y _ h1 h2 => skey_inj (dle_anti h1 h2)]
  rfl
example : ordI [98, 97, 36, 97] = [2, 1, 3, 0] := by decide +kernel
end L2

set_option Elab.async false
set_option linter.all false
set_option maxRecDepth 100000
set_option maxHeartbeats 4000000
/-! IntsKit: tuples and lists of ints as data. -/
namespace L2
open PySem
def tI (ns : List Int) : PyData := .tuple (ns.map PyData.int)
def lI (ns : List Int) : PyData := .list (ns.map PyData.int)
theorem dp_ints {K : PySem.W.Frag} {H : Hp} : ∀ ns : List Int, DpAll K H (ns.map V.int) (ns.map PyData.int)
  | [] => .nil
  | n :: r => .cons (.int n) (dp_ints r)
theorem dp_tI {K : PySem.W.Frag} {H : Hp} {a : Addr} {ns : List Int} (h : SqT K H a (ns.map V.int)) : Dp K H (.ref a) (tI ns) := .tup h (dp_ints ns)
theorem dp_lI {K : PySem.W.Frag} {H : Hp} {a : Addr} {ns : List Int} (h : SqL K H a (ns.map V.int)) : Dp K H (.ref a) (lI ns) := .lst h (dp_ints ns)
theorem shaped_lI (ns : List Int) : SeqAt.shaped (lI ns) = true := PySem.W.ke_shaped_ints ns
theorem shaped_tI (ns : List Int) : SeqAt.shaped (tI ns) = true := by
  simp [tI, SeqAt.shaped, PyData.canLay0, PyData.depth, PySem.W.ke_canLayAll0, PySem.W.ke_depthAll]
theorem eqvAll_ints : ∀ ns ms : List Int, PyData.eqvAll (ns.map PyData.int) (ms.map PyData.int) = decide (ns = ms)
  | [], [] => by simp [PyData.eqvAll]
  | [], _ :: _ => by simp [PyData.eqvAll]
  | _ :: _, [] => by simp [PyData.eqvAll]
  | n :: r, k :: q => by
    simp only [List.map_cons, PyData.eqvAll, PyData.eqv, eqvAll_ints r q]
    by_cases h : n = k <;> simp [h]
theorem eqv_tI (ns ms : List Int) : PyData.eqv (tI ns) (tI ms) = decide (ns = ms) := by
  unfold tI
  simp only [PyData.eqv]
  exact eqvAll_ints ns ms
theorem eqv_lI (ns ms : List Int) : PyData.eqv (lI ns) (lI ms) = decide (ns = ms) := by
  unfold lI
  simp only [PyData.eqv]
  exact eqvAll_ints ns ms
theorem depth_tI (ns : List Int) : (tI ns).depth = 1 := by simp [tI, PyData.depth, PySem.W.ke_depthAll]
theorem flat_ints (ns : List Int) : (ns.map V.int).all flatV = true := by
  rw [List.all_map, List.all_eq_true]
  intro n _
  rfl
theorem inV_ints (k : Int) (ns : List Int) : inV (.int k) (ns.map V.int) = ns.any (· == k) := by
  unfold inV
  rw [List.any_map]
  rfl
/-- a tuple of ints -/
def RTup (H : Hp) (x : V) (ns : List Int) : Prop := ∃ p, x = .ref p ∧ H p = some (.tup (ns.map V.int))
theorem rtup_keep (H H' : Hp) (x : V) (ns : List Int) (k : KeepL H H') (r : RTup H x ns) : RTup H' x ns := by
  obtain ⟨p, rfl, e⟩ := r
  exact ⟨p, rfl, k _ _ e fun _ z => by cases z⟩
theorem rtup_same (H H' : Hp) (x : V) (ns : List Int) (s : ∀ b o, H b = some o → H' b = some o) (r : RTup H x ns) : RTup H' x ns := rtup_keep H H' x ns (.of s) r
def RInt (_ : Hp) (x : V) (n : Int) : Prop := x = .int n
theorem rint_keep (H H' : Hp) (x : V) (n : Int) (_ : KeepL H H') (r : RInt H x n) : RInt H' x n := r
theorem rint_map {H : Hp} {ys : List V} {ns : List Int} (h : All2 (RInt H) ys ns) : ys = ns.map V.int := All2.eq_map (f := V.int) h
/-- tuples of ints by their order -/
def leT (a b : List Int) : Bool := dle tI a b
def sortT (xs : List (List Int)) : List (List Int) := isort leT xs
theorem toks_tI (ns : List Int) : ∃ r, PySem.W.keyToks (tI ns) = r := ⟨_, rfl⟩
end L2
namespace L2
open PySem
theorem toksAll_inj : ∀ {ns ms : List Int}, PySem.W.keyToksAll (ns.map PyData.int) = PySem.W.keyToksAll (ms.map PyData.int) → ns = ms
  | [], [], _ => rfl
  | [], m :: r, h => by simp [PySem.W.keyToksAll] at h
  | n :: r, [], h => by simp [PySem.W.keyToksAll] at h
  | n :: r, m :: q, h => by
    simp only [List.map_cons, PySem.W.keyToksAll, PySem.W.keyToks, List.cons_append, List.nil_append] at h
    injection h with _ h
    injection h with h1 h2
    injection h1 with h1
    rw [h1, toksAll_inj h2]
theorem toks_inj {ns ms : List Int} (h : PySem.W.keyToks (tI ns) = PySem.W.keyToks (tI ms)) : ns = ms := by
  unfold tI at h
  simp only [PySem.W.keyToks] at h
  exact toksAll_inj h
theorem zip_snd {α β : Type} {R : α → β → Prop} {xs : List α} {zs : List β} (h : All2 R xs zs) : (xs.zip zs).map (·.2) = zs ∧ (∀ q ∈ xs.zip zs, R q.1 q.2) ∧ (xs.zip zs).map (·.1) = xs := by
  induction h with
  | nil => exact ⟨rfl, fun q hq => (by cases hq), rfl⟩
  | cons h t ih =>
    refine ⟨?_, fun q hq => ?_, ?_⟩
    · rw [List.zip_cons_cons, List.map_cons, ih.1]
    · rw [List.zip_cons_cons] at hq
      rcases List.mem_cons.mp hq with rfl | hq
      · exact h
      · exact ih.2.1 q hq
    · rw [List.zip_cons_cons, List.map_cons, ih.2.2]
theorem all2_of_pairs {α β : Type} {R : α → β → Prop} : ∀ {qs : List (α × β)}, (∀ q ∈ qs, R q.1 q.2) → All2 R (qs.map (·.1)) (qs.map (·.2))
  | [], _ => .nil
  | q :: qs, h => .cons (h q List.mem_cons_self) (all2_of_pairs fun p hp => h p (List.mem_cons_of_mem _ hp))
def prD (q : V × List Int) : V × PyData := (q.1, tI q.2)
theorem sorted_tups {R : V → List Int → Prop} {xs : List V} {zs : List (List Int)} (h : All2 R xs zs) : All2 R ((((xs.zip zs).map prD).mergeSort (PySem.W.dataLe false (·.2))).map (·.1)) (sortT zs) := by
  obtain ⟨e2, hR, _⟩ := zip_snd h
  have h1 := List.map_mergeSort (f := prD) (r := dle fun q : V × List Int => tI q.2) (s := PySem.W.dataLe false (·.2)) (l := xs.zip zs) fun a _ b _ => rfl
  rw [← h1, List.map_map]
  have hp := List.mergeSort_perm (xs.zip zs) (dle fun q : V × List Int => tI q.2)
  have hs : ((xs.zip zs).mergeSort (dle fun q : V × List Int => tI q.2)).Pairwise (fun x y => dle (fun q : V × List Int => tI q.2) x y = true) := List.pairwise_mergeSort (fun a b c => dle_trans _ a b c) (fun a b => dle_total _ a b) _
  have e3 : ((xs.zip zs).mergeSort (dle fun q : V × List Int => tI q.2)).map (·.2) = sortT zs := by
    refine sorted_uniq leT (fun x _ y _ a b => toks_inj (dle_anti a b)) ?_ ?_ (isort_sorted leT (dle_trans tI) (dle_total tI) zs)
    · have q := (hp.map (·.2)).trans (by rw [e2])
      exact q.trans (isort_perm leT zs).symm
    · rw [List.pairwise_map]
      exact hs
  rw [← e3]
  exact all2_of_pairs fun q hq => hR q (hp.mem_iff.mp hq)
theorem alike_ints : ∀ ns ms : List Int, PySem.W.alikeAll (ns.map PyData.int) (ms.map PyData.int) = true
  | [], [] => rfl
  | [], _ :: _ => rfl
  | _ :: _, [] => rfl
  | n :: r, m :: q => by simp [PySem.W.alikeAll, PySem.W.alike, alike_ints r q]
/-- sorted(xs) of tuples of ints, none empty -/
theorem sortedT_ok {K : PySem.W.Frag} {H : Hp} {a : Addr} {xs : List V} {zs : List (List Int)} {Q : VK} (hS : H a = some (.lst xs)) (h : All2 (RTup H) xs zs) (hne : ∀ z ∈ zs, z ≠ [])
    (k : ∀ p ys, H p = none → All2 (RTup H) ys (sortT zs) → Q (.ref p) (upd H p (.lst ys))) : rSortedD K [V.ref a] H Q := by
  obtain ⟨e2, hR, e1⟩ := zip_snd h
  have em : ((xs.zip zs).map prD).map (·.1) = xs := by
    rw [List.map_map]
    exact e1
  have ed : ((xs.zip zs).map prD).map (·.2) = zs.map tI := by
    rw [List.map_map]
    conv => rhs; rw [← e2, List.map_map]
    rfl
  refine ⟨a, (xs.zip zs).map prD, rfl, by rw [em]; exact .of hS, fun b hb => ?_, ?_, ?_, fun b hb => ?_, fun p hp => k p _ hp (sorted_tups h)⟩
  · obtain ⟨q, hq, rfl⟩ := List.mem_map.mp hb
    obtain ⟨p, e, hp⟩ := hR q hq
    show Dp K H q.1 (tI q.2)
    rw [e]
    exact dp_tI (.of hp)
  · rw [ed]
    intro d hd d' hd'
    obtain ⟨n, _, rfl⟩ := List.mem_map.mp hd
    obtain ⟨m, _, rfl⟩ := List.mem_map.mp hd'
    simp only [tI, PySem.W.alike]
    exact alike_ints n m
  · rw [ed]
    refine .inl fun d hd => ?_
    obtain ⟨n, hn, rfl⟩ := List.mem_map.mp hd
    cases n with
    | nil => exact absurd rfl (hne _ hn)
    | cons n r => exact ⟨.int n, r.map PyData.int, rfl⟩
  · obtain ⟨q, hq, rfl⟩ := List.mem_map.mp hb
    show (tI q.2).depth ≤ 50
    rw [depth_tI]
    decide
end L2
namespace L2
open PySem
theorem catA_ok {K : PySem.W.Frag} {H : Hp} {a b : Addr} {xs ys : List V} {Q : VK} (ha : H a = some (.tup xs)) (hb : H b = some (.tup ys)) (hl : xs.length + ys.length ≤ sizeLine) (k : ∀ p H', Same H H' → H' p = some (.tup (xs ++ ys)) → Q (.ref p) H') : rCatA K (.ref a) (.ref b) H Q :=
  ⟨a, b, xs, ys, rfl, rfl, .of ha, .of hb, hl, fun e => k _ _ (.refl _) (by rw [e]; exact hb), fun _ e => k _ _ (.refl _) (by rw [e, List.append_nil]; exact ha), fun _ _ p hp => k _ _ (fun c u e => by rw [upd_ne (ne_of_none e hp)]; exact e) upd_same⟩
theorem cutV_whole (xs : List V) (lo hi : Option Int) (h : HT.sIx xs.length 0 lo = 0 ∧ HT.sIx xs.length xs.length hi = xs.length) : cutV xs lo hi = xs := by
  unfold cutV
  rw [h.1, h.2]
  simp
theorem slA_ok {K : PySem.W.Frag} {H : Hp} {a : Addr} {xs : List V} {lo hi : Option Int} {Q : VK} (ha : H a = some (.tup xs)) (k : ∀ p H', Same H H' → H' p = some (.tup (cutV xs lo hi)) → Q (.ref p) H') : rSlA K (.ref a) lo hi H Q :=
  ⟨a, xs, rfl, .of ha, fun e => k _ _ (.refl _) (by rw [cutV_whole xs lo hi e]; exact ha), fun _ p hp => k _ _ (fun c u e => by rw [upd_ne (ne_of_none e hp)]; exact e) upd_same⟩
end L2
namespace L2
open PySem PySem.Spec PyProof.Rows
section
variable {X : Cx}
/-- xs + ys of lists that may be read only -/
def rCatS (K : PySem.W.Frag) : R2 := fun x y H Q => ∃ l b xs zs, x = .ref l ∧ y = .ref b ∧ SqL K H l xs ∧ SqL K H b zs ∧ xs.length + zs.length ≤ sizeLine ∧ ∀ p, H p = none → Q (.ref p) (upd H p (.lst (xs ++ zs)))
theorem op_catS : OpR X (binaryOp .Add) (rCatS X.K) := by
  intro pins s σ H x y v u Q I rx ry h
  obtain ⟨l, b, xs, zs, rfl, rfl, ha, hb, hz, q⟩ := h
  cases rx
  cases ry
  obtain ⟨its, r1, p1, _⟩ := I.list ha
  obtain ⟨its2, r2, p2, _⟩ := I.list hb
  obtain ⟨⟨cls, dd, data, sl⟩, n, ho, hc, hdn, hd⟩ := p1
  obtain ⟨⟨cls2, dd2, data2, sl2⟩, n2, ho2, hc2, hdn2, hd2⟩ := p2
  simp only at hc hdn hd hc2 hdn2 hd2
  subst hc hdn hd hc2 hdn2 hd2
  have l1 := r1.length
  have l2 := r2.length
  refine concat_meets ⟨_, ho, rfl⟩ ⟨_, ho2, rfl⟩ noFill_list_add seq_list_add PySem.F.slot_list_add PySem.F.entry_list_add (PySem.F.args_list_add_2 _ _)
    (list_addW l b its.toArray its2.toArray n n2 none none sl sl2 (by rw [List.size_toArray, List.size_toArray]; omega)) ⟨ho, ho2, ?_⟩
  have ea : its.toArray ++ its2.toArray = (its ++ its2).toArray := by simp
  rw [ea]
  exact ⟨.ref _, _, I.lnew (t' := s.toks) (r1.append r2) (by rw [List.length_append]; omega), rfl, q _ I.fresh⟩
end
end L2

set_option Elab.async false
set_option linter.all false
set_option maxRecDepth 100000
set_option maxHeartbeats 4000000
/-! ValKit: d.values(), sum and list of it; math.comb. -/
namespace L2
open PySem PySem.Spec PyProof.Rows
section
variable {X : Cx}
abbrev vwO (p d : Addr) : HO := viewO "dict_values" p d
def rVals : V → List V → Hp → VK → Prop := fun x xs H Q => ∃ (a : Addr) (kvs : List (Key × V)), x = .ref a ∧ xs = [] ∧ H a = some (.dK kvs) ∧ ∀ p, H p = none → Q (.ref p) (upd H p (vwO p a))
theorem mt_values : MtR X "dict.values" rVals := by
  intro pins s σ H x xs v us Q I rx rxs h
  obtain ⟨a, kvs, rfl, rfl, ha, q⟩ := h
  cases rx
  cases rxs
  obtain ⟨_, hsys, vs, rel, dof⟩ := dk_of I.hok ha
  refine call_meetsIn F.slot_dict_values dof.typeIs F.entry_dict_values (F.args_dict_values_1 _) (meets_dict_values (mixKind X.prog X.w) a hsys) ⟨⟨vs, dof⟩, ?_⟩
  exact ⟨.ref s.heap.objs.size, upd H s.heap.objs.size (vwO s.heap.objs.size a), I.laid (t' := s.toks) (fun b u e => Heap.get?_push_of_some _ e) (Nat.le_refl _) (viewO_ok (Heap.get?_push_size _ rfl)), rfl, q _ (I.hok.fresh (Nat.le_refl _))⟩
theorem preSum_ints (ns : List Int) : ∀ j, preSum (fun i => ns.getD i 0) j = (ns.take j).sum := by
  intro j
  induction j with
  | zero => simp [preSum]
  | succ j ih =>
    rw [preSum, ih]
    by_cases h : j < ns.length
    · rw [List.getD_eq_getElem?_getD, List.getElem?_eq_getElem h, List.take_succ_eq_append_getElem h, List.sum_append]
      simp only [Option.getD_some, List.sum_cons, List.sum_nil, Int.add_zero]
    · rw [List.take_of_length_le (by omega), List.take_of_length_le (by omega), List.getD_eq_getElem?_getD, List.getElem?_eq_none (by omega)]
      simp
def rSumV : List V → Hp → VK → Prop := fun xs H Q => ∃ (p a : Addr) (kvs : List (Key × V)) (ns : List Int), xs = [.ref p] ∧ H p = some (vwO p a) ∧ H a = some (.dK kvs) ∧ kvs.map (·.2) = ns.map V.int ∧ Q (.int ns.sum) H
theorem cr_sumV (hc : X.calm = true) : CallR X (.builtin "sum") rSumV := by
  intro pins s σ H xs us Q I r h
  obtain ⟨p, a, kvs, ns, rfl, hp, ha, hv, q⟩ := h
  rw [Vals.ref1 r]
  have vw : s.heap.get? p = some (DSub.viewOb "dict_values" a) := (show ObjOk X.prog X.w H s.heap p (vwO p a) from I.hok p _ hp).1
  obtain ⟨_, hsys, vs, rel, dof⟩ := dk_of I.hok ha
  obtain ⟨ep, dat⟩ := dof.dictAt
  obtain ⟨ob, es, ho, ex, hdat, hko, hpr, hnd⟩ := id dat
  have hlt : a < s.heap.objs.size := Heap.lt_size ho
  have hlv : vs.length = ns.length := by
    have e1 := congrArg List.length hv
    rw [List.length_map, List.length_map] at e1
    rw [← e1]
    exact (KV.length rel).symm
  have hval : ∀ (i : Nat) (v : Value), (∃ k, vs[i]? = some (k, v)) → ∃ t, v = Value.int (ns.getD i 0) t := fun i v ⟨k, hk⟩ => by
    obtain ⟨x, h1, h2⟩ := KV.at' rel hk
    have e1 : (kvs.map (·.2))[i]? = some x := by rw [List.getElem?_map, h1] <;> rfl
    rw [hv, List.getElem?_map] at e1
    obtain ⟨j, hj, e2⟩ := Option.map_eq_some_iff.mp e1
    subst e2
    obtain ⟨t, e3⟩ := h2
    refine ⟨t, ?_⟩
    rw [e3, List.getD_eq_getElem?_getD, hj] <;> rfl
  refine call_sum_walkAnyS (wpAny_pyIter_values (v := p) (d := a) ⟨_, vw, rfl, rfl⟩ dat ?_)
  refine ⟨_, _, _, _, _, _, _, fun i => ns.getD i 0, rfl, (Walks.dictValues (knd := mixKind X.prog X.w) (A := X.A.in1) (I.ok.hd hc) s.heap.objs.size a (Nat.ne_of_lt hlt) vs ep).toS,
    ⟨⟨_, Heap.get?_push_size _ rfl, rfl, rfl⟩, dat.keep fun b u e => Heap.get?_push_of_some _ e⟩, fun b hb => ?_, hval, fun s' t' hm => ?_⟩
  · rcases List.mem_cons.mp hb with e | hb
    · rw [e, Heap.size_push]
      exact Nat.lt_succ_self _
    · rw [List.mem_singleton.mp hb, Heap.size_push]
      exact Nat.lt_succ_of_lt hlt
  · have hk : ∀ b o, s.heap.get? b = some o → s'.heap.get? b = some o := fun b o e =>
      hm.heap b o (fun hI => absurd (Heap.lt_size e) (by rw [List.mem_singleton.mp hI]; exact Nat.lt_irrefl _)) (Heap.get?_push_of_some _ e)
    rw [Moved.eq_with hm]
    refine ⟨.int _, H, I.kept (t' := s'.toks) hk, ⟨t', rfl⟩, ?_⟩
    rw [preSum_ints, hlv, List.take_length]
    exact q
def rListV : List V → Hp → VK → Prop := fun xs H Q => ∃ (p a : Addr) (kvs : List (Key × V)), xs = [.ref p] ∧ H p = some (vwO p a) ∧ H a = some (.dK kvs) ∧ ∀ r, H r = none → Q (.ref r) (upd H r (.lst (kvs.map (·.2))))
theorem vals_at {us : List Value} {xs : List V} (hl : us.length = xs.length) (h : ∀ (i : Nat) (u : Value), us[i]? = some u → ∃ x : V, xs[i]? = some x ∧ RelV x u) : Vals xs us := by
  induction xs generalizing us with
  | nil =>
    cases us with
    | nil => exact .nil
    | cons u us => cases hl
  | cons x xs ih =>
    cases us with
    | nil => cases hl
    | cons u us =>
      obtain ⟨y, e, r⟩ := h 0 u rfl
      cases e
      exact .cons r (ih (by simpa using hl) fun i u hu => by simpa using h (i + 1) u (by simpa using hu))
theorem cr_listV (hc : X.calm = true) : CallR X (.type "list") rListV := by
  intro pins s σ H xs us Q I r h
  obtain ⟨p, a, kvs, rfl, hp, ha, q⟩ := h
  rw [Vals.ref1 r]
  have vw : s.heap.get? p = some (DSub.viewOb "dict_values" a) := (show ObjOk X.prog X.w H s.heap p (vwO p a) from I.hok p _ hp).1
  obtain ⟨hz, hsys, vs, rel, dof⟩ := dk_of I.hok ha
  obtain ⟨ep, dat⟩ := dof.dictAt
  have hl : kvs.length = vs.length := KV.length rel
  refine PySem.W.kdl_call (PySem.W.kdl_values (knd := mixKind X.prog X.w) (kvs := vs) (ep := ep)) (I.ok.hd hc) ⟨⟨_, vw, rfl, rfl⟩, dat⟩ (by omega) fun h' tk acc c hk hS hacc => ?_
  refine ⟨.ref s.heap.objs.size, _, I.laid (t' := tk) (a := s.heap.objs.size) (o := .lst (kvs.map (·.2))) hk (Nat.le_refl _) ⟨by rw [List.length_map]; exact hz, acc.toList, c, vals_at (by rw [Array.length_toList, hacc.1, List.length_map, hl]) fun i u hu => ?_, by rw [Array.toArray_toList]; exact hS⟩, rfl, q _ (I.hok.fresh (Nat.le_refl _))⟩
  obtain ⟨k, e⟩ := hacc.2 i u (by rw [← Array.getElem?_toList]; exact hu)
  obtain ⟨x, h1, h2⟩ := KV.at' rel e
  exact ⟨x, by rw [List.getElem?_map, h1] <;> rfl, h2⟩
def rComb : List V → Hp → VK → Prop := fun vs H Q => ∃ a b : Int, vs = [.int a, .int b] ∧ 0 ≤ a ∧ 0 ≤ b ∧ a < 2 ^ 64 ∧ b ≤ 9000 ∧ Q (.int (PySem.W.mcComb a b)) H
theorem cr_comb : CallR X (.builtin "math.comb") rComb := by
  intro pins s σ H vs us Q I r h
  obtain ⟨a, b, rfl, ha, hb, ha2, hk, q⟩ := h
  obtain ⟨t, u, rfl⟩ := Vals.int2 r
  exact PySem.W.mc_comb ha hb ha2 (.inl hk) fun _ => ⟨.int _, H, I.tok _, ⟨_, rfl⟩, q⟩
end
end L2

set_option Elab.async false
set_option linter.all false
set_option maxRecDepth 100000
set_option maxHeartbeats 4000000
/-! RaiseKit: an error raised; several clauses, with and without names; what a lambda handed over says. -/
namespace L2
open PySem PySem.Spec PyProof.Rows EK
section
variable {X : Cx} {C fI : Addr} {x f : Str}
/-- x(e), made to be raised: its own dict, new, holds the value -/
def tErrMk (C : Addr) (f : Str) (ta : TA) : St → Hp → XK → Prop := fun σ H Q => ta σ H fun vs H1 => ∃ v, vs = [v] ∧ ∀ d, H1 d = none → Q (.ref C) (some d) (upd H1 d (.xd [(f, v)]))
theorem pmk_err {a : Expr} {ta : TA} {p pos : Pos} {k : Nat} (T : ErrTxt X.prog X.K X.mg x f C fI) (hr : Room k X.A) (ha : PA X [a] ta) (hg : Gl X x) (hd : (x == ("__debug__" : Str)) = false := by decide)
    (he : starEach (a :: []) X.env = (false, eval a X.env) :: starEach [] X.env := by rfl) (hpl : (backTo pos (starEach [] X.env)).any (·.1) = false := by rfl) :
    PMk X (.Call (.Name x p) [a] [] pos) (tErrMk C f ta) := by
  intro pins s σ H Q I h
  refine wpAny_Call_Name_kw (ld_glob I hg T.gC ?_ hd)
  refine PySem.W.callWith_K (h₀ := X.base) I.ok.mod.kin T.kC (thn (ha.run pos pins s σ H _ I h) fun us s1 hh => ?_) he hpl
  obtain ⟨vs, H1, I1, r1, v, ev, q1⟩ := hh
  subst ev
  refine ⟨I1.kIn, ?_⟩
  cases r1 with
  | cons rv rn =>
    rename_i v' us'
    cases rn
    show wpAny _ _ (call (.ref C) [v']) _ _ _
    have hlim := I1.nolimit
    obtain ⟨hp, g, dr, tk, os⟩ := s1
    obtain ⟨mb, hb1, hb2⟩ := I1.mod.blt
    refine wpAny_call (err_made T I1.kIn hlim (I1.mod.glob.keeps I1.bk) ⟨mb, hb1.keeps I1.bk, hb2⟩ (by have := hr.dp; omega) fun h' tk' e d M => ?_)
    show MkP X pins σ Q (.ref e) ⟨h', g, dr, tk', os⟩
    obtain ⟨t1, hoe⟩ := M.obj
    obtain ⟨G, g1, g2⟩ := restrict h' fun b => decide (b ≠ e)
    have gk : ∀ b, b ≠ e → G.get? b = h'.get? b := fun b hb => g1 b (decide_eq_true hb)
    have ge : G.get? e = none := g2 e (by simp)
    have gs : ∀ b o, G.get? b = some o → h'.get? b = some o := fun b o q => by
      by_cases hbe : b = e
      · rw [hbe, ge] at q
        cases q
      · exact (gk b hbe).symm.trans q
    have old : ∀ b o, hp.get? b = some o → G.get? b = some o := fun b o q => (gk b (Nat.ne_of_lt (Nat.lt_of_lt_of_le (Heap.lt_size q) M.new))).trans (M.keep b o q)
    have ob : ObjOk X.prog X.w (upd H1 d (.xd [(f, v)])) G d (.xd [(f, v)]) := ⟨_, M.ns.at (fun o q => (gk d M.dne).trans q), relO_one rv⟩
    have J : Inv X pins σ (upd H1 d (.xd [(f, v)])) ⟨G, g, dr, tk', os⟩ := I1.laid (t' := tk') old M.dbig ob
    have ne : (upd H1 d (.xd [(f, v)])) e = none := by
      rw [upd_ne (Ne.symm M.dne)]
      exact I1.hok.fresh M.new
    exact ⟨e, _, _, ⟨G, g, dr, tk', os⟩, _, .ref C, some d, rfl, J, gs, ge, hoe, ⟨rfl, rfl⟩, rfl, rfl, ne, rfl, I1.bare, raises_own T.exC T.tyC, q1 d (I1.hok.fresh M.dbig)⟩
theorem ps_raiseErr {a : Expr} {ta : TA} {W : WX} {p pos pos2 : Pos} {k : Nat} (hc : X.calm = true) (T : ErrTxt X.prog X.K X.mg x f C fI) (hr : Room k X.A) (tk : Takes X W) (ha : PA X [a] ta) (hg : Gl X x) (hd : (x == ("__debug__" : Str)) = false := by decide)
    (he : starEach (a :: []) X.env = (false, eval a X.env) :: starEach [] X.env := by rfl) (hpl : (backTo pos (starEach [] X.env)).any (·.1) = false := by rfl) :
    PS X (.Raise (some (.Call (.Name x p) [a] [] pos)) none pos2) (fun _ σ H => tErrMk C f ta σ H fun cls d H' => W cls d σ H') := ps_raise hc tk (pmk_err T hr ha hg hd he hpl)
end
/-! ### try with several clauses -/
structure Cl where
  c : Value
  i : Option Nat
  ts : Addr → Value → Option Addr → TS
def Ends.drop (D : Ends) (i : Nat) : Ends := { nx := fun s h => D.nx (s.set i none) h, rt := D.rt, bk := fun s h => D.bk (s.set i none) h, ct := fun s h => D.ct (s.set i none) h }
def Cl.run (k : Cl) (a : Addr) (cls : Value) (d : Option Addr) : TS := fun D σ H => match k.i with
  | none => k.ts a cls d D σ H
  | some i => i < σ.length → k.ts a cls d (D.drop i) (σ.set i (some (.ref a))) H
def wCl (K : PySem.W.Frag) (Wout : WX) (D : Ends) : List Cl → WX
  | [] => Wout
  | k :: r => fun cls d σ H => ∃ b, PySem.W.exmOne K cls k.c = some b ∧ (b = true → ∀ a, H a = none → k.run a cls d D σ H) ∧ (b = false → wCl K Wout D r cls d σ H)
inductive ClOk (X : Cx) : List ExceptHandler → List Cl → Prop
  | nil : ClOk X [] []
  | un {x : Str} {c : Value} {ts : Addr → Value → Option Addr → TS} {b1 : Stmt} {suite : List Stmt} {np pos' : Pos} {hds : List ExceptHandler} {l : List Cl} (hc : Names X x c)
      (hsu : ∀ (a : Addr) (oe : Obj) (cls : Value) (d : Option Addr) (pn : List (Addr × Obj)), Zc cls d oe → (∃ vs, oe.data = .fields vs) → PSs (X.suite a ((a, oe) :: pn)) (b1 :: suite) (ts a cls d)) (r : ClOk X hds l) :
      ClOk X (.ExceptHandler (some (.Name x np)) none (b1 :: suite) pos' :: hds) (⟨c, none, ts⟩ :: l)
  | as {x n : Str} {i : Nat} {c : Value} {ts : Addr → Value → Option Addr → TS} {b1 : Stmt} {suite : List Stmt} {np pos' : Pos} {hds : List ExceptHandler} {l : List Cl} (hi : X.N[i]? = some n) (hln : X.env.kindOf n = some .local) (hc : Names X x c)
      (hsu : ∀ (a : Addr) (oe : Obj) (cls : Value) (d : Option Addr) (pn : List (Addr × Obj)), Zc cls d oe → (∃ vs, oe.data = .fields vs) → PSs (X.suite a ((a, oe) :: pn)) (b1 :: suite) (ts a cls d)) (r : ClOk X hds l) :
      ClOk X (.ExceptHandler (some (.Name x np)) (some n) (b1 :: suite) pos' :: hds) (⟨c, some i, ts⟩ :: l)
section
variable {X : Cx} {body : List Stmt} {hd0 : ExceptHandler} {hds : List ExceptHandler} {l : List Cl} {pos : Pos} {tb : WX → TS} {Wout : WX} {pins : List (Addr × Obj)} {s : Shared} {D : Ends}
/-- behind a suite: its end, the name gone -/
theorem sp_unsuite {a : Addr} {q : Addr × Obj} {f : Flow} (ok : X.Ok) (h : SP (X.suite a (q :: (X.pn ++ pins))) [] D f s) : SP X pins D f s := by
  cases f with
  | next =>
    obtain ⟨t, h1, J, z⟩ := h
    exact ⟨t, h1, J.unsuite ok, z⟩
  | brk =>
    obtain ⟨t, h1, J, z⟩ := h
    exact ⟨t, h1, J.unsuite ok, z⟩
  | cont =>
    obtain ⟨t, h1, J, z⟩ := h
    exact ⟨t, h1, J.unsuite ok, z⟩
  | ret u =>
    obtain ⟨v, t, h1, J, r, z⟩ := h
    exact ⟨v, t, h1, J.unsuite ok, r, z⟩
theorem sp_gone {n : Str} {i : Nat} {f : Flow} {pos' : Pos} (hN : X.N.Nodup) (hi : X.N[i]? = some n) (hln : X.env.kindOf n = some .local) (h : SP X pins (D.drop i) f s) :
    wpAny (model X.prog X.w) X.A (do bindName X.env n .none; unbindBehindTheSuite X.env n pos') (fun _ s7 => SP X pins D f s7) X.xe s := by
  cases f with
  | next =>
    obtain ⟨t, h1, J, z⟩ := h
    exact gone_ok J hN hi hln fun s7 J7 => ⟨_, _, J7, z⟩
  | brk =>
    obtain ⟨t, h1, J, z⟩ := h
    exact gone_ok J hN hi hln fun s7 J7 => ⟨_, _, J7, z⟩
  | cont =>
    obtain ⟨t, h1, J, z⟩ := h
    exact gone_ok J hN hi hln fun s7 J7 => ⟨_, _, J7, z⟩
  | ret u =>
    obtain ⟨v, t, h1, J, r, z⟩ := h
    exact gone_ok J hN hi hln fun s7 J7 => ⟨_, _, _, J7, r, z⟩
theorem names_ld {a : Addr} {oe : Obj} {pn : List (Addr × Obj)} {σ : St} {H : Hp} {x : Str} {c : Value} {np : Pos} (S : Inv (X.suite a ((a, oe) :: pn)) [] σ H s) (hc : Names X x c) {Q : Value → Shared → Prop} {E : Value → Shared → Prop} (q : Q c s) :
    wpAny (model X.prog X.w) (X.A.mark (some (.ref a))) (eval (.Name x np) X.env) Q E s := by
  obtain ⟨h1, h2, h3⟩ := hc
  rcases h3 with h3 | ⟨h3, h4, h5⟩
  · exact ld_glob (X := X.suite a ((a, oe) :: pn)) S h1 h3 q h2
  · exact ld_blt (X := X.suite a ((a, oe) :: pn)) S h1 h3 h4 q h5 h2
theorem ps_tryC (hs : X.stack = X.env :: X.outer) (hf : X.env.frame = some X.env.locals) (hN : X.N.Nodup) (tk : Takes X Wout)
    (hb : ∀ (W : WX) (pn : List (Addr × Obj)) (xe : Value → Shared → Prop), Takes (X.tr pn xe) W → PassesOwn (model X.prog X.w) X.A X.env xe → PSs (X.tr pn xe) body (tb W))
    (hh : ClOk X (hd0 :: hds) l) : PS X (.Try body (hd0 :: hds) [] [] pos) (fun D σ H => tb (wCl X.K Wout D l) D σ H) := by
  refine ⟨fun pins s σ H D I h => ?_⟩
  have ok := I.ok
  have hfr : X.A.frames = some (X.env :: X.outer) := ok.frames.trans (congrArg some hs)
  refine wpAny_Try_except (wpAny_mono ((hb (wCl X.K Wout D l) (X.pn ++ pins) _ (fun u s' xx => ?_) PassesOwn.looking).run [] s σ H D (I.toTry _) h) (fun fl s1 hsp => ?_) fun e s1 he => he)
  · -- an exception has come
    obtain ⟨a, B, sI, pins', σ', H', cls, d, rfl, J0, nb, up, sky, na, os, ag, w⟩ := xx
    have J : Inv X pins σ' H' sI := J0.ofTry ok
    rw [hs] at sky
    show wpAny (model X.prog X.w) X.A (noteFrame (.ref a) X.env) _ _ _
    refine Sky.land Zc.steady hfr hf sky fun h3 fl3 up3 => ?_
    have J3 : Inv X pins σ' H' { s' with heap := h3 } := J.landed nb fl3.1 (up.trans up3) os ag
    obtain ⟨oe3, vs3, he3, hz3, hd3⟩ := fl3.there
    have ff := fl3.2.2.1
    have away : ∀ b ∈ frs (X.env :: X.outer), a ≠ b := fun b hm z => by
      obtain ⟨_, o', e', hnf⟩ := ff.mem hm
      rw [← z, he3] at e'
      cases e'
      exact hnf _ hd3
    have nL : a ≠ X.env.locals := away _ (List.mem_filterMap.mpr ⟨X.env, List.mem_cons_self, hf⟩)
    have nF : a ∉ X.fs := fun hm => by
      obtain ⟨e, he, q⟩ := List.mem_filterMap.mp hm
      exact away a (List.mem_filterMap.mpr ⟨e, List.mem_cons_of_mem _ he, q⟩) rfl
    have S3 := J3.suite he3 hd3 na nL nF
    have LT : PySem.W.Looks (model X.prog X.w) h3 (typeOf (.ref a)) cls := fun A Q E s k q => wpAny_typeOf_ref (k _ _ he3) (by rw [hz3.1]; exact q)
    have test : ∀ {x : Str} {c : Value} {np : Pos}, Names X x c → ∀ {Q : Value → Shared → Prop} {E : Value → Shared → Prop}, Q c { s' with heap := h3 } → wpAny (model X.prog X.w) (X.A.mark (some (.ref a))) (eval (.Name x np) X.env) Q E { s' with heap := h3 } := fun hc => names_ld S3 hc
    have go : ∀ {hs2 : List ExceptHandler} {l2 : List Cl}, ClOk X hs2 l2 → wCl X.K Wout D l2 cls d σ' H' →
        wpAny (model X.prog X.w) X.A (handleBy (.ref a) X.env hs2) (SP X pins D) X.xe { s' with heap := h3 } := by
      intro hs2 l2 hk
      induction hk with
      | nil =>
        intro w
        refine wpAny_handleBy_nil ?_
        obtain ⟨_, _, _, oe, vs, T, oT, ts', he, hz, hd, h1, hr⟩ := id fl3
        unfold PySem.passOn
        refine wpAny_bind (wpAny_field he hd h1 ?_)
        rw [if_neg (show ¬ ((Value.ref T == Value.none) = true) from by simp)]
        have fin : wpAny (model X.prog X.w) X.A (setFlight (.ref a) X.env.frame) (fun _ s4 => wpAny (model X.prog X.w) X.A (throw (.ref a) : Sem Flow) (SP X pins D) X.xe s4) X.xe { s' with heap := h3 } := by
          rw [hf]
          exact HandSPX.setFlight_upZ fl3 fun h4 hh4 up4 => wpAny_throw (tk _ _ ⟨a, B, sI, pins, σ', H', cls, d, rfl, J, nb, (up.trans up3).trans up4, .inr (.inr (by rw [hs]; exact hh4)), na, os, ag, w⟩)
        first
          | exact wpAny_bind (wpAny_pure (wpAny_bind fin))
          | exact wpAny_bind fin
      | @un x c ts b1 suite np pos' hds2 l2 hc hsu r ih =>
        intro ⟨b, hb1, hyes, hno⟩
        refine wpAny_handleBy_cons (codeAny_handlers_test (test hc ((PySem.W.exm_one (M := model X.prog X.w) J3.kIn LT hb1).here ?_))) (by intro q; cases q)
        cases b with
        | false => exact ih (hno rfl)
        | true =>
          refine codeAny_handlers_suite (HandSPX.lands_againZ fl3 fun h4 fl4 up4 => ?_)
          have J4 : Inv X pins σ' H' { s' with heap := h4 } := J.landed nb fl4.1 ((up.trans up3).trans up4) os ag
          obtain ⟨oe4, vs4, he4, hz4, hd4⟩ := fl4.there
          exact wpAny_mono ((hsu a oe4 cls d (X.pn ++ pins) hz4 ⟨_, hd4⟩).run [] _ _ H' _ (J4.suite he4 hd4 na nL nF) (hyes rfl a na)) (fun f s6 hsp => sp_unsuite ok hsp) (fun _ _ z => False.elim z)
      | @as x n i c ts b1 suite np pos' hds2 l2 hi hln hc hsu r ih =>
        intro ⟨b, hb1, hyes, hno⟩
        refine wpAny_handleBy_cons (codeAny_handlers_test (test hc ((PySem.W.exm_one (M := model X.prog X.w) J3.kIn LT hb1).here ?_))) (by intro q; cases q)
        cases b with
        | false => exact ih (hno rfl)
        | true =>
          refine codeAny_handlers_suite_as (HandSPX.lands_againZ fl3 fun h4 fl4 up4 => ?_)
          have J4 : Inv X pins σ' H' { s' with heap := h4 } := J.landed nb fl4.1 ((up.trans up3).trans up4) os ag
          obtain ⟨oe4, vs4, he4, hz4, hd4⟩ := fl4.there
          refine store_ok (X := X.suite a ((a, oe4) :: (X.pn ++ pins))) (v := .ref a) (J4.suite he4 hd4 na nL nF) hN hi (.inl hln) rfl (fun s5 S5 => ?_) (.inr hln)
          have hil : i < σ'.length := by rw [J.len]; exact (List.getElem?_eq_some_iff.mp hi).1
          exact wpAny_mono ((hsu a oe4 cls d (X.pn ++ pins) hz4 ⟨_, hd4⟩).run [] s5 _ H' _ S5 (hyes rfl a na hil)) (fun f s6 hsp => sp_gone hN hi hln (sp_unsuite ok hsp)) (fun _ _ z => False.elim z)
    exact go hh w
  · cases fl with
    | next =>
      obtain ⟨t, h1, J', q⟩ := hsp
      exact wpAny_execs_nil ⟨t, h1, J'.ofTry ok, q⟩
    | brk =>
      obtain ⟨t, h1, J', q⟩ := hsp
      exact ⟨t, h1, J'.ofTry ok, q⟩
    | cont =>
      obtain ⟨t, h1, J', q⟩ := hsp
      exact ⟨t, h1, J'.ofTry ok, q⟩
    | ret u =>
      obtain ⟨v, t, h1, J', r, q⟩ := hsp
      exact ⟨v, t, h1, J'.ofTry ok, r, q⟩
end
end L2

set_option Elab.async false
set_option linter.all false
set_option maxRecDepth 100000
set_option maxHeartbeats 4000000
/-! SaidKit: what a lambda handed over tells, or which of two errors it raises, as a pair. -/
namespace L2
open PySem PySem.Spec PyProof.Rows EK LamX
/-- an error of cls with its dict d: of the class at C, its one value told as (m, value) -/
def errTold (C : Addr) (f m : Str) (Q : VK) : XK := fun cls d H => cls = .ref C ∧ ∃ (dd : Addr) (v : V), d = some dd ∧ H dd = some (.xd [(f, v)]) ∧ ∀ p, H p = none → Q (.ref p) (upd H p (.tup [.str m, v]))
def wSaid (K : PySem.W.Frag) (C1 C2 : Addr) (f1 f2 m1 m2 : Str) (Q : VK) : XK := fun cls d H => ∃ b1, PySem.W.exmOne K cls (.ref C1) = some b1 ∧ (b1 = true → errTold C1 f1 m1 Q cls d H) ∧
  (b1 = false → ∃ b2, PySem.W.exmOne K cls (.ref C2) = some b2 ∧ (b2 = true → errTold C2 f2 m2 Q cls d H) ∧ (b2 = false → False))
def TSaid (K : PySem.W.Frag) (C1 C2 : Addr) (f1 f2 m1 m2 : Str) : (XK → Hp → VK → Prop) → Hp → VK → Prop := fun tl H Q =>
  tl (wSaid K C1 C2 f1 f2 m1 m2 Q) H fun v H1 => [V.str "told", v].length ≤ sizeLine ∧ ∀ p, H1 p = none → Q (.ref p) (upd H1 p (.tup [.str "told", v]))
theorem said_gives {X : Cx} {Ng : List Str} {x a e1 e2 n1 n2 q f1 f2 m1 m2 : Str} {sg : Scope} {g C1 C2 : Addr} {cdg : Value} {j0 j1 j2 : Nat} {p1 p2 p3 p4 p5 p6 p7 p8 a1 a2 a3 a4 a5 a6 a7 b1 b2 b3 b4 b5 b6 b7 c1 c2 : Pos} {k0 k1 k2 : Nat} {mz : Value}
    (hN : Ng.Nodup) (hn1 : Ng[1]? = some n1) (hl1 : sg.names.lookup n1 = some .local) (hn2 : Ng[1]? = some n2)
    (ge1 : sg.names.lookup e1 = some .globalImplicit) (hm1 : X.mg e1 = some (.ref C1)) (de1 : (e1 == ("__debug__" : Str)) = false)
    (ge2 : sg.names.lookup e2 = some .globalImplicit) (hm2 : X.mg e2 = some (.ref C2)) (de2 : (e2 == ("__debug__" : Str)) = false)
    (T1 : XfC X.K C1) (T2 : XfC X.K C2) (no1 : PySem.W.findIn X.K (.ref C1) f1 = some none) (no2 : PySem.W.findIn X.K (.ref C2) f2 = some none) (dn : (n1 == ("__debug__" : Str)) = false) (cn : (n1 == ("__classdict__" : Str)) = false) (sk : sg.kind = .function)
    (h0 : ∀ f : Addr, (L2.start Ng [V.ref f])[0]? = some (some (V.ref f))) (hz1 : ∀ f : Addr, (L2.start Ng [V.ref f])[1]? = some none) :
    GivesTo X Ng x sg g cdg [.Try [.Return (some (.Tuple [.Constant (.str "told") j0 p1, .Call (.Name a p2) [] [] p3] k0 p4)) p5]
      [.ExceptHandler (some (.Name e1 a1)) (some n1) [.Return (some (.Tuple [.Constant (.str m1) j1 a2, .Attribute (.Name n1 a3) f1 a4] k1 a5)) a6] a7,
       .ExceptHandler (some (.Name e2 b1)) (some n2) [.Return (some (.Tuple [.Constant (.str m2) j2 b2, .Attribute (.Name n2 b3) f2 b4] k2 b5)) b6] b7] [] [] p8] a q (TSaid X.K C1 C2 f1 f2 m1 m2) := by
  obtain rfl : n1 = n2 := Option.some.inj (hn1.symm.trans hn2)
  intro f c' s H Q tl act hc h
  have hlen : 1 < (L2.start Ng [V.ref f]).length := by
    have z := hz1 f
    exact (List.getElem?_eq_some_iff.mp z).1
  have gl1 : Gl (cxOf C8.CX0 X.prog X.w X.K X.mg X.base Ng x sg g cdg X.A X.stack s H C8.E0).nox e1 := ge1
  have gl2 : Gl (cxOf C8.CX0 X.prog X.w X.K X.mg X.base Ng x sg g cdg X.A X.stack s H C8.E0).nox e2 := ge2
  refine ⟨_, pss_one (ps_tryC (X := (cxOf C8.CX0 X.prog X.w X.K X.mg X.base Ng x sg g cdg X.A X.stack s H C8.E0).nox)
      (tb := fun W D σ H => ∃ Ech : XK, (∀ cls d σ' H', Ech cls d H' → W cls d σ' H') ∧ σ[0]? = some (some (.ref f)) ∧ H c' = some (CodeO c' q) ∧ tl Ech H (fun v H1 => [V.str "told", v].length ≤ sizeLine ∧ ∀ p, H1 p = none → D.rt (.ref p) (upd H1 p (.tup [.str "told", v]))))
      (l := [⟨.ref C1, some 1, fun a cls d => tRet (tTup (tCons (tC (.str m1)) (tCons (tXf a cls d C1 f1 (tVar 1)) tNil)))⟩, ⟨.ref C2, some 1, fun a cls d => tRet (tTup (tCons (tC (.str m2)) (tCons (tXf a cls d C2 f2 (tVar 1)) tNil)))⟩])
      rfl rfl hN takes0 (fun W pn xe tk _ => ?_)
      (ClOk.as hn1 (by show Env.kindOf _ n1 = some NameKind.local; exact hl1) ⟨gl1, de1, .inl hm1⟩ (fun a oe cls d pn hz hf => pss_one (ps_ret (pe_tup (pa_cons pe_str (pa_cons (pe_xf T1 no1 hz hf (pe_var (i := 1) hn1 (Or.inl hl1) dn cn)) pa_nil)))))
        (ClOk.as hn1 (by show Env.kindOf _ n1 = some NameKind.local; exact hl1) ⟨gl2, de2, .inl hm2⟩ (fun a oe cls d pn hz hf => pss_one (ps_ret (pe_tup (pa_cons pe_str (pa_cons (pe_xf T2 no2 hz hf (pe_var (i := 1) hn1 (Or.inl hl1) dn cn)) pa_nil))))) .nil))), ?_⟩
  · refine ⟨fun pins s' σ H' D I h' => ?_⟩
    obtain ⟨Ech, hW, h1, h2, h3⟩ := h'
    have hp := act W pn xe Ech p2 p3 tk hW
    have hq : PSs ((cxOf C8.CX0 X.prog X.w X.K X.mg X.base Ng x sg g cdg X.A X.stack s H C8.E0).tr pn xe) [.Return (some (.Tuple [.Constant (.str "told") j0 p1, .Call (.Name a p2) [] [] p3] k0 p4)) p5] _ := pss_one (ps_ret (pe_tup (pa_cons pe_str (pa_cons hp pa_nil))))
    exact hq.run pins s' σ H' D I ⟨h1, h2, h3⟩
  · have hset : ∀ (σ : L2.St) (y : V), 1 < σ.length → (σ.set 1 (some y))[1]? = some (some y) := fun σ y h => by rw [List.getElem?_set_self h]
    have two : ∀ x y : V, [x, y].length ≤ sizeLine := fun x y => by show 2 ≤ sizeLine; decide
    refine ⟨wSaid X.K C1 C2 f1 f2 m1 m2 Q, fun cls d σ' H' ⟨b1, e1, y1, z1⟩ => ⟨b1, e1, fun hb a ha hl => ?_, fun hb => ?_⟩, h0 f, hc, h⟩
    · obtain ⟨ec, dd, v, ed, hd, q⟩ := y1 hb
      exact ⟨_, hset _ _ hl, rfl, ec, dd, _, v, ed, hd, look1 _ _, two _ _, q⟩
    · obtain ⟨b2, e2, y2, z2⟩ := z1 hb
      refine ⟨b2, e2, fun hb2 a ha hl => ?_, fun hb2 => z2 hb2⟩
      obtain ⟨ec, dd, v, ed, hd, q⟩ := y2 hb2
      exact ⟨_, hset _ _ hl, rfl, ec, dd, _, v, ed, hd, look1 _ _, two _ _, q⟩
end L2

set_option Elab.async false
set_option linter.all false
set_option maxRecDepth 100000
set_option maxHeartbeats 4000000
namespace T34
open PySem L2 EK
/-- a thing whose kind is known -/
inductive Pl (H : Hp) : V → Prop
  | non : Pl H .non
  | int (i : Int) : Pl H (.int i)
  | str (z : Str) : Pl H (.str z)
  | bl (b : Bool) : Pl H (.bl b)
  | tup {a : Addr} {xs : List V} (e : H a = some (.tup xs)) : Pl H (.ref a)
  | lst {a : Addr} {xs : List V} (e : H a = some (.lst xs)) : Pl H (.ref a)
  | dct {a : Addr} {kvs : List (Key × V)} (e : H a = some (.dK kvs)) : Pl H (.ref a)
theorem Pl.keep {H H' : Hp} {x : V} (h : Pl H x) (s : Same H H') : Pl H' x := by
  cases h with
  | non => exact .non
  | int i => exact .int i
  | str z => exact .str z
  | bl b => exact .bl b
  | tup e => exact .tup (s _ _ e)
  | lst e => exact .lst (s _ _ e)
  | dct e => exact .dct (s _ _ e)
def isIntV : V → Bool
  | .int _ => true
  | .bl _ => true
  | _ => false
def isBlV : V → Bool
  | .bl _ => true
  | _ => false
def isTupV (H : Hp) (x : V) : Prop := ∃ a xs, x = .ref a ∧ H a = some (.tup xs)
theorem Pl.isInt {K : PySem.W.Frag} {H : Hp} {x : V} (h : Pl H x) : ∃ t, TyX K H x t ∧ PySem.W.kitOne K t (.type "int") = some (isIntV x) := by
  cases h with
  | non => exact ⟨_, .base .non, kit_ty (r := false) (by decide +kernel)⟩
  | int i => exact ⟨_, .base (.int i), kit_ty (r := true) (by decide +kernel)⟩
  | str z => exact ⟨_, .base (.str z), kit_ty (r := false) (by decide +kernel)⟩
  | bl b => exact ⟨_, .base (.bl b), kit_ty (r := true) (by decide +kernel)⟩
  | tup e => exact ⟨_, .base (.tup e), kit_ty (r := false) (by decide +kernel)⟩
  | lst e => exact ⟨_, .base (.lst e), kit_ty (r := false) (by decide +kernel)⟩
  | dct e => exact ⟨_, .base (.dK e), kit_ty (r := false) (by decide +kernel)⟩
theorem Pl.isBl {K : PySem.W.Frag} {H : Hp} {x : V} (h : Pl H x) : ∃ t, TyX K H x t ∧ PySem.W.kitOne K t (.type "bool") = some (isBlV x) := by
  cases h with
  | non => exact ⟨_, .base .non, kit_ty (r := false) (by decide +kernel)⟩
  | int i => exact ⟨_, .base (.int i), kit_ty (r := false) (by decide +kernel)⟩
  | str z => exact ⟨_, .base (.str z), kit_ty (r := false) (by decide +kernel)⟩
  | bl b => exact ⟨_, .base (.bl b), kit_ty (r := true) (by decide +kernel)⟩
  | tup e => exact ⟨_, .base (.tup e), kit_ty (r := false) (by decide +kernel)⟩
  | lst e => exact ⟨_, .base (.lst e), kit_ty (r := false) (by decide +kernel)⟩
  | dct e => exact ⟨_, .base (.dK e), kit_ty (r := false) (by decide +kernel)⟩
theorem Pl.isTup {K : PySem.W.Frag} {H : Hp} {x : V} (h : Pl H x) : (∃ a xs, x = .ref a ∧ H a = some (.tup xs) ∧ ∃ t, TyX K H x t ∧ PySem.W.kitOne K t (.type "tuple") = some true) ∨ ((∀ a xs, x = .ref a → H a ≠ some (.tup xs)) ∧ ∃ t, TyX K H x t ∧ PySem.W.kitOne K t (.type "tuple") = some false) := by
  cases h with
  | non => exact .inr ⟨fun a xs z => (by cases z), _, .base .non, kit_ty (r := false) (by decide +kernel)⟩
  | int i => exact .inr ⟨fun a xs z => (by cases z), _, .base (.int i), kit_ty (r := false) (by decide +kernel)⟩
  | str z => exact .inr ⟨fun a xs z => (by cases z), _, .base (.str z), kit_ty (r := false) (by decide +kernel)⟩
  | bl b => exact .inr ⟨fun a xs z => (by cases z), _, .base (.bl b), kit_ty (r := false) (by decide +kernel)⟩
  | tup e => exact .inl ⟨_, _, rfl, e, _, .base (.tup e), kit_ty (r := true) (by decide +kernel)⟩
  | lst e => exact .inr ⟨fun a xs z q => (by cases z; rw [e] at q; cases q), _, .base (.lst e), kit_ty (r := false) (by decide +kernel)⟩
  | dct e => exact .inr ⟨fun a xs z q => (by cases z; rw [e] at q; cases q), _, .base (.dK e), kit_ty (r := false) (by decide +kernel)⟩
def numB (x : V) (m : Int) : Bool := match x with
  | .int i => decide (m ≤ i)
  | _ => false
def numBB (x : V) (lo hi : Int) : Bool := match x with
  | .int i => decide (lo ≤ i) && decide (i ≤ hi)
  | _ => false
theorem numBB_int {x : V} {lo hi : Int} (h : numBB x lo hi = true) : ∃ i, x = .int i ∧ lo ≤ i ∧ i ≤ hi := by
  cases x with
  | int i =>
    have h : (decide (lo ≤ i) && decide (i ≤ hi)) = true := h
    rw [Bool.and_eq_true] at h
    exact ⟨i, rfl, of_decide_eq_true h.1, of_decide_eq_true h.2⟩
  | _ => exact absurd h (by simp [numBB])
theorem numB_int {x : V} {m : Int} (h : numB x m = true) : ∃ i, x = .int i ∧ m ≤ i := by
  cases x with
  | int i => exact ⟨i, rfl, of_decide_eq_true h⟩
  | _ => exact absurd h (by simp [numB])
/-- 0 to len, rising -/
def incB : List Int → Bool
  | [] => true
  | [_] => true
  | a :: b :: r => decide (a < b) && incB (b :: r)
def valI : V → Int
  | .int i => i
  | _ => 0
def sampB (xs : List V) (len : Int) : Bool := !xs.isEmpty && xs.all (numBB · 0 len) && incB (xs.map valI)
structure TxtC (K : PySem.W.Frag) (mg : Str → Option Value) : Prop where
  isinstance : mg "isinstance" = none
  int : mg "int" = none
  bool : mg "bool" = none
  tuple : mg "tuple" = none
  all : mg "all" = none
  len : mg "len" = none
  list : mg "list" = none
  sorted : mg "sorted" = none
  set : mg "set" = none
  range : mg "range" = none
  max : mg "max" = none
  min : mg "min" = none
  zip : mg "zip" = none
  most : ∃ u, mg "MOST_LETTERS" = some u ∧ RelV (.int 300) u
  comb : mg "comb" = some (.builtin "math.comb")
def spNumber : Sp := fun vs H Q _ => ∃ x m, vs = [x, .int m] ∧ Pl H x ∧ Q (.bl (numB x m)) H
def spNB : Sp := fun vs H Q _ => ∃ x m n, vs = [x, .int m, .int n] ∧ Pl H x ∧ Q (.bl (numBB x m n)) H
/-- a thing of which it is known whether it is a sampling -/
inductive IsS (H : Hp) (len : Int) : V → Bool → Prop
  | no {x : V} (p : Pl H x) (n : ∀ a xs, x = .ref a → H a ≠ some (.tup xs)) : IsS H len x false
  | tup {a : Addr} {xs : List V} (e : H a = some (.tup xs)) (p : ∀ y ∈ xs, Pl H y) (l : xs.length ≤ 400) : IsS H len (.ref a) (sampB xs len)
def spSamp : Sp := fun vs H Q _ => ∃ x len b, vs = [x, .int len] ∧ IsS H len x b ∧ ∀ H', Same H H' → Q (.bl b) H'
section
variable {P : Program} {w : World} {K : PySem.W.Frag} {mg : Str → Option Value} {base : Heap}
theorem scNum : FnScope ["value", "least"] ["value", "least"] (defScope sIsNum) := ⟨rfl, rfl, rfl, by decide +kernel, rfl, by decide +kernel, by decide +kernel⟩
theorem scNB : FnScope ["value", "least", "greatest"] ["value", "least", "greatest"] (defScope sIsNB) := ⟨rfl, rfl, rfl, by decide +kernel, rfl, by decide +kernel, by decide +kernel⟩
theorem scSamp : FnScope ["value", "length", "place"] ["value", "length"] (defScope sIsSamp) := ⟨rfl, rfl, rfl, by decide +kernel, rfl, by decide +kernel, by decide +kernel⟩
theorem ok_isNumber {f : Addr} {fd : FuncData} (F : Fun K "is_number" "is_number" sIsNum f fd) (T : TxtC K mg) : FnOk P w K mg base CX0 1 f fd ["value", "least"] spNumber := by
  refine F.ok scNum (fun vs H Q E h => ?_) (fun cdv A outer s H vs Q E hr h => ?_)
  · obtain ⟨x, m, rfl, _⟩ := h
    rfl
  · obtain ⟨x, m, rfl, hp, k⟩ := h
    have nd := scNum.nd
    refine ⟨_, (pss_one (ps_ret (pe_and (pe_callB call_isi (by rfl) T.isinstance (by decide +kernel) (pa_cons (pv 0) (pa_cons (pe_bltn (v := .ty "int") rfl T.int (by decide +kernel) rfl) pa_nil))) (pe_and (pe_not (pe_callB call_isi (by rfl) T.isinstance (by decide +kernel) (pa_cons (pv 0) (pa_cons (pe_bltn (v := .ty "bool") rfl T.bool (by decide +kernel) rfl) pa_nil)))) (pe_one (pe_cmpR op_ge (pv 0) (pv 1) (nomark _))))))), ?_⟩
    obtain ⟨t, ht, hk⟩ := hp.isInt (K := K)
    obtain ⟨t2, ht2, hk2⟩ := hp.isBl (K := K)
    refine ⟨_, rfl, _, _, _, _, _, rfl, .ty _, ht, hk, _, rfl, ?_⟩
    cases x with
    | int i =>
      exact ⟨_, rfl, _, _, _, _, _, rfl, .ty _, ht2, hk2, _, rfl, _, rfl, _, rfl, _, rfl, _, _, rfl, rfl, k⟩
    | bl b => exact ⟨_, rfl, _, _, _, _, _, rfl, .ty _, ht2, hk2, _, rfl, _, rfl, k⟩
    | _ => exact k
theorem ok_isNB {f fN : Addr} {fd fdN : FuncData} (F : Fun K "is_number_between" "is_number_between" sIsNB f fd)
    (GN : FnOk P w K mg base CX0 1 fN fdN ["value", "least"] spNumber) (gN : mg "is_number" = some (.ref fN)) (kN : PySem.W.keepIn K (.ref fN) = true) (bN : Binds K fdN ["value", "least"] []) :
    FnOk P w K mg base CX0 2 f fd ["value", "least", "greatest"] spNB := by
  refine F.ok scNB (fun vs H Q E h => ?_) (fun cdv A outer s H vs Q E hr h => ?_)
  · obtain ⟨x, m, n, rfl, _⟩ := h
    rfl
  · obtain ⟨x, m, n, rfl, hp, k⟩ := h
    have hr1 : Room 1 _ := hr
    refine ⟨_, (pss_one (ps_ret (pe_and (pe_call GN hr1 rfl gN kN bN .nil pass0 (pa_cons (pv 0) (pa_cons (pv 1) pa_nil))) (pe_one (pe_cmpR op_le (pv 0) (pv 2) (nomark _)))))), ?_⟩
    refine ⟨_, rfl, _, rfl, x, m, rfl, hp, _, rfl, ?_⟩
    cases x with
    | int i =>
      by_cases h : m ≤ i
      · have e : numB (.int i) m = true := decide_eq_true h
        have e2 : numBB (.int i) m n = decide (i ≤ n) := by
          show (decide (m ≤ i) && decide (i ≤ n)) = _
          rw [decide_eq_true h, Bool.true_and]
        rw [e2] at k
        rw [e]
        exact ⟨_, rfl, _, rfl, _, _, rfl, rfl, k⟩
      · have e : numB (.int i) m = false := decide_eq_false h
        have e2 : numBB (.int i) m n = false := by
          show (decide (m ≤ i) && decide (i ≤ n)) = _
          rw [decide_eq_false h, Bool.false_and]
        rw [e2] at k
        rw [e]
        exact k
    | _ => exact k
theorem all_ints {xs : List V} {lo hi : Int} (h : xs.all (numBB · lo hi) = true) : xs = (xs.map valI).map V.int := by
  induction xs with
  | nil => rfl
  | cons x xs ih =>
    rw [List.all_cons, Bool.and_eq_true] at h
    obtain ⟨i, rfl, _, _⟩ := numBB_int h.1
    rw [List.map_cons, List.map_cons, ← ih h.2]
    rfl
theorem incB_iff : ∀ ns : List Int, incB ns = true ↔ ns.Pairwise (· < ·)
  | [] => by simp [incB]
  | [a] => by simp [incB]
  | a :: b :: r => by
    have ih := incB_iff (b :: r)
    rw [incB, Bool.and_eq_true, decide_eq_true_eq, ih]
    constructor
    · rintro ⟨h1, h2⟩
      refine List.pairwise_cons.mpr ⟨fun c hc => ?_, h2⟩
      rcases List.mem_cons.mp hc with rfl | hc
      · exact h1
      · exact Int.lt_trans h1 ((List.pairwise_cons.mp h2).1 c hc)
    · intro h
      obtain ⟨h1, h2⟩ := List.pairwise_cons.mp h
      exact ⟨h1 b List.mem_cons_self, h2⟩
theorem sorted_same {ns ms : List Int} (h1 : ns.Pairwise (· < ·)) (h2 : ms.Pairwise (· < ·)) (h : ∀ k, k ∈ ns ↔ k ∈ ms) : ns = ms := by
  have nd : ∀ {l : List Int}, l.Pairwise (· < ·) → l.Nodup := fun h => h.imp fun h e => by rw [e] at h; exact Int.lt_irrefl _ h
  have p : ns.Perm ms := (List.perm_ext_iff_of_nodup (nd h1) (nd h2)).mpr h
  refine sorted_uniq (fun a b => decide (a ≤ b)) (fun x _ y _ a b => Int.le_antisymm (of_decide_eq_true a) (of_decide_eq_true b)) p (h1.imp fun h => decide_eq_true (Int.le_of_lt h)) (h2.imp fun h => decide_eq_true (Int.le_of_lt h))
theorem ok_isSamp {f fB : Addr} {fd fdB : FuncData} (F : Fun K "is_sampling" "is_sampling" sIsSamp f fd) (T : TxtC K mg)
    (GB : FnOk P w K mg base CX0 2 fB fdB ["value", "least", "greatest"] spNB) (gB : mg "is_number_between" = some (.ref fB)) (kB : PySem.W.keepIn K (.ref fB) = true) (bB : Binds K fdB ["value", "least", "greatest"] []) :
    FnOk P w K mg base CX0 3 f fd ["value", "length"] spSamp := by
  refine F.ok scSamp (fun vs H Q E h => ?_) (fun cdv A outer s H vs Q E hr h => ?_)
  · obtain ⟨x, len, b, rfl, _⟩ := h
    rfl
  · obtain ⟨x, len, b, rfl, hS, k⟩ := h
    have nd := scSamp.nd
    have hu : (A.deeper (PyProof.Rows.envOfC "is_sampling" (defScope sIsSamp) s.heap.objs.size f cdv)).units + 64 < cLine := hr.units
    have hr2 : Room 2 _ := hr
    refine ⟨_, (pss_cons (ps_if (PW.pt (pw_or (pt_not (pt_val (pe_callB call_isi (by rfl) T.isinstance (by decide +kernel) (pa_cons (pv 0) (pa_cons (pe_bltn (v := .ty "tuple") rfl T.tuple (by decide +kernel) rfl) pa_nil))))) (pw_or1 (pt_cmpR op_eq (pe_callB call_len_seq (by rfl) T.len (by decide +kernel) (pa_cons (pv 0) pa_nil)) pe_int (nomark _))))) (pss_one (ps_ret pe_bl)) pss_nil)
      (pss_cons (ps_if (pt_not (pt_val (pe_callB (cr_all rfl) (by rfl) T.all (by decide +kernel) (pa_cons (pe_lc (own := [("place", 2)]) (g := gName 2) (tt := tYes) rfl nd (pi_tup (pv 0)) (blkOk_by (N := ["value", "length", "place"]) (sc := defScope sIsSamp) (by decide +kernel)) (fun _ _ _ _ _ => (pg_name (i := 2) nd rfl (Or.inl rfl))) (fun _ _ _ _ _ => pts_nil) (fun _ _ _ _ _ => (pe_call GB hr2 rfl gB kB bB .nil pass0 (pa_cons (pv 2) (pa_cons pe_int (pa_cons (pv 1) pa_nil)))))) pa_nil)))) (pss_one (ps_ret pe_bl)) pss_nil)
      (pss_one (ps_ret (pe_cmpR (op_eqD hu) (pe_callTy call_list_of (by rfl) T.list (by decide +kernel) (pa_cons (pv 0) pa_nil)) (pe_callB (cr_sortedSetA rfl) (by rfl) T.sorted (by decide +kernel) (pa_cons (pe_callTy (cr_setI rfl) (by rfl) T.set (by decide +kernel) (pa_cons (pv 0) pa_nil)) pa_nil)) (nomark _)))))), ?_⟩
    cases hS with
    | no p n =>
      rcases p.isTup (K := K) with ⟨a, xs, rfl, e, _⟩ | ⟨_, t, ht, hk⟩
      · exact absurd e (n _ _ rfl)
      · exact ⟨_, rfl, _, _, _, _, _, rfl, .ty _, ht, hk, _, rfl, k H (.refl _)⟩
    | @tup a xs e p l =>
      refine ⟨_, rfl, _, _, _, _, true, rfl, .ty _, .base (.tup e), kit_ty (by decide +kernel), _, rfl, ?_⟩
      refine ⟨_, rfl, a, xs, rfl, .inr (.of e), rfl, _, rfl, ?_⟩
      by_cases h0 : xs = []
      · subst h0
        exact k H (.refl _)
      · have hd : decide (V.int ((xs.length : Nat) : Int) = V.int 0) = false := by
          rw [decide_eq_false_iff_not]
          intro z
          injection z with z
          exact h0 (List.length_eq_zero_iff.mp (by omega))
        rw [hd]
        have hne : xs.isEmpty = false := by
          cases xs with
          | nil => exact absurd rfl h0
          | cons => rfl
        refine ⟨_, rfl, a, rfl, ⟨xs, .of e⟩, fun D nD => lcM_tup (K := K) (R := fun H y z => y = z ∧ Pl H y) (R' := fun H y b => y = V.bl b) (zs := xs) (fun _ => true) (fun y => numBB y 0 len) nD (.of e) ?_ ?_ (fun _ _ _ _ _ r => r) (by have : sizeLine = 2 ^ 24 := sizeLine_eq; omega) ?_ ?_⟩
        · have := All2.map (R := fun y z => y = z ∧ Pl H y) (f := id) (g := id) (cs := xs) fun c hc => ⟨rfl, p c hc⟩
          simpa using this
        · rintro H H' y z s ⟨rfl, q⟩
          exact ⟨rfl, q.keep s⟩
        · rintro i y z H2 C C0 hz s ⟨rfl, q⟩ c1 c0
          exact ⟨rfl, ⟨_, rfl, _, rfl, y, 0, len, rfl, q, c1 rfl _ _ (fun _ _ e => e) rfl⟩⟩
        · intro ys H2 s2 hD ha
          rw [List.filter_eq_self.mpr fun _ _ => rfl] at ha
          have ey := All2.eq_map (f := V.bl) ha
          refine ⟨D, xs.map (fun y => numBB y 0 len), rfl, .of (by rw [hD, ey]), _, rfl, ?_⟩
          have ea : (xs.map fun y => numBB y 0 len).all id = xs.all fun y => numBB y 0 len := by rw [List.all_map]; rfl
          rw [ea]
          by_cases hall : (xs.all fun y => numBB y 0 len) = true
          · rw [hall]
            have ei := all_ints hall
            have e2 := s2 _ _ e
            rw [ei] at e2
            refine ⟨_, rfl, a, _, rfl, .inr (.of e2), fun l1 z1 => ?_⟩
            obtain ⟨H3, e3, S3, A3⟩ := alloc (o := .lst ((xs.map valI).map V.int)) z1
            rw [e3]
            refine ⟨_, rfl, a, xs.map valI, rfl, .of (S3 _ _ e2), by rw [List.length_map]; omega, fun q m hm nq => ?_⟩
            obtain ⟨H4, e4, S4, A4⟩ := alloc (o := SetO w q (fun j => decide (j ∈ xs.map valI)) m) nq
            rw [List.length_map] at hm
            refine ⟨q, _, m, rfl, upd_same, by omega, fun ns p hp hmem hlen np => ?_⟩
            have S5 : Same H3 (upd (upd H3 q (SetO w q (fun j => decide (j ∈ xs.map valI)) m)) p (.lst (ns.map V.int))) := fun b o e => by
              have h1 : b ≠ q := ne_of_none e nq
              have h2 : b ≠ p := fun z => by
                rw [z] at e h1
                rw [upd_ne h1, e] at np
                cases np
              rw [upd_ne h2, upd_ne h1]
              exact e
            refine ⟨lI (xs.map valI), lI ns, dp_lI (.of (S5 _ _ A3)), dp_lI (.of upd_same), shaped_lI _, shaped_lI _, ?_⟩
            rw [eqv_lI]
            have eb : sampB xs len = decide (xs.map valI = ns) := by
              unfold sampB
              rw [hne, hall]
              show (true && true && incB (xs.map valI)) = _
              rw [Bool.and_self, Bool.true_and]
              by_cases hi : incB (xs.map valI) = true
              · rw [hi]
                exact (decide_eq_true (sorted_same ((incB_iff _).mp hi) hp fun k => by rw [hmem k, decide_eq_true_eq])).symm
              · have hi2 : incB (xs.map valI) = false := by simpa using hi
                rw [hi2]
                exact (decide_eq_false fun z => hi (by rw [z]; exact (incB_iff _).mpr hp)).symm
            rw [← eb]
            exact k _ (fun b o e => S5 _ _ (S3 _ _ (s2 _ _ e)))
          · have hall2 : (xs.all fun y => numBB y 0 len) = false := by simpa using hall
            rw [hall2]
            have eb : sampB xs len = false := by
              unfold sampB
              rw [hall2, Bool.and_false, Bool.false_and]
            rw [eb] at k
            exact k _ s2
end
end T34

set_option Elab.async false
set_option linter.all false
set_option maxRecDepth 100000
set_option maxHeartbeats 4000000
/-! LongKit: tuple(range(a, b, c)) whose numbers are beyond a machine word. -/
namespace L2
open PySem PySem.Spec PyProof.Rows
section
variable {pr : Program} {ww : World} {B : Around} {EE : Value → Shared → Prop} {u0 : Shared} {rg : Addr} {i0 j0 c0 : Int} {q1 q2 q3 : Tok} {m : Nat}
/-- a list that grows by a long range -/
theorem extend_long {RR : Result → Shared → Prop} (calm : B.handled = none) (there : IsRange u0.heap rg i0 j0 c0 q1 q2 q3) (big : Builtin.Range.small i0 j0 c0 = false)
    (many : Builtin.Range.rangeSize i0 j0 c0 = m) (few : m ≤ 2 ^ 24) (L : Addr) (out : Value) (ep : Nat) (hL : u0.heap.get? L = some { cls := .type "list", data := .seq #[] ep })
    (fin : ∀ h1 t1 got e1, (∀ x ob, x ≠ L → u0.heap.get? x = some ob → h1.get? x = some ob) → h1.get? L = some { cls := .type "list", dict := none, data := .seq got e1, slots := #[] } →
      ItemsOf (fun k y => ∃ t, y = .int (i0 + k * c0) t) got m → RR (.ok (.ret out)) { u0 with heap := h1, toks := t1 }) :
    wpAny (model pr ww) B.in1 (Builtin.List.listExtendWith (.ref L) (.ref rg) out)
      (fun f1 u1 => match f1 with
        | .done f => RR (.ok f) u1
        | .again c1 => c1.quiet = true ∧ codeAny (model pr ww) B c1 RR u1) (fun e u1 => RR (.error e) u1) u0 := by
  have ne : L ≠ rg := fun z => by
    rw [z, there] at hL
    simp at hL
  have lt : L < u0.heap.objs.size := Heap.lt_size hL
  have neI : L ≠ u0.heap.objs.size := Nat.ne_of_lt lt
  have notIn : L ∉ [u0.heap.objs.size] := fun z => neI (List.mem_singleton.mp z)
  have WW := (Walks.longrange (prog := pr) (w := ww) (A := B.in1) calm u0.heap.objs.size i0 c0 m).toS
  have main : ∀ (h1 : Heap) (e1 t1 : Nat), IsLongIter h1 u0.heap.objs.size (i0 + ((0 : Nat) : Int) * c0) ((m : Int) - ((0 : Nat) : Int)) c0 →
      (∀ x ob, x ≠ L → u0.heap.get? x = some ob → h1.get? x = some ob) → h1.get? L = some { cls := .type "list", data := .seq #[] e1 } →
      codeAny (model pr ww) B (.builtin "list.extend.loop" ⟨[.ref L, .ref u0.heap.objs.size, out], []⟩) RR { u0 with heap := h1, toks := t1 } := by
    intro h1 e1 t1 at0 old hL1
    refine codeAny_extend_loopS WW (by rw [sizeLine_eq]; omega) L notIn out m 0 _ #[] e1 rfl (Nat.zero_le _) at0 hL1 (ItemsOf.nil _) fun u1 got e2 mv hL2 its => ?_
    rw [Moved.eq_with mv]
    refine fin u1.heap u1.toks got e2 (fun x ob hx e => mv.heap x ob (fun z => ?_) (old x ob hx e)) hL2 its
    rcases List.mem_cons.mp z with z | z
    · exact hx z
    · rw [List.mem_singleton.mp z] at e
      exact Nat.lt_irrefl _ (Heap.lt_size e)
  unfold Builtin.List.listExtendWith
  refine wpAny_bind (wpAny_typeOf (T := "range") ⟨_, there, rfl⟩ ?_)
  have g1 : Builtin.List.listSameRef (.ref L) (.ref rg) = false := by simp [Builtin.List.listSameRef, ne]
  have g2 : (Value.type "range" == Value.type "list") = false := by decide
  have g3 : (Value.type "range" == Value.type "tuple") = false := by decide
  simp only [g1, g2, g3, Bool.or_false, Bool.false_eq_true, if_false]
  refine wpAny_bind (wpAny_pyIter_longrange there big ?_)
  refine wpAny_bind (wpAny_holding (wpAny_hint_range (n := m) (Heap.get?_push_of_some _ there) many few ?_))
  have at1 : IsLongIter (u0.heap.push { cls := .type "longrange_iterator", data := .fields #[rawInt i0, rawInt (Builtin.Range.rangeSize i0 j0 c0), rawInt c0] }) u0.heap.objs.size (i0 + ((0 : Nat) : Int) * c0) ((m : Int) - ((0 : Nat) : Int)) c0 := by
    show IsLongIter _ _ _ _ _
    rw [many]
    simpa using Heap.get?_push_size _ rfl
  have hL1 := Heap.get?_push_of_some { cls := .type "longrange_iterator", data := .fields #[rawInt i0, rawInt (Builtin.Range.rangeSize i0 j0 c0), rawInt c0] } hL
  refine wpAny_ite_split (fun _ => ?_) (fun _ => wpAny_pure ⟨plainId_quiet F.plain_extend_loop _, main _ ep _ at1 (fun x ob _ e => Heap.get?_push_of_some _ e) hL1⟩)
  refine wpAny_bind (wpAny_rule ?_)
  refine wpAny_bind ?_
  show wpAny _ _ (updateSeq L (·.push .none) >>= fun _ => updateSeq L (·.pop)) _ _ _
  refine wpAny_bind (wpAny_updateSeq hL1 rfl ?_)
  have hL2 := Heap.get?_update_self (Obj.mapSeq (·.push Value.none)) hL1 rfl
  refine wpAny_updateSeq (hz := by seq_fits) hL2 rfl ?_
  have hL3 := Heap.get?_update_self (Obj.mapSeq (·.pop)) hL2 rfl
  refine wpAny_pure ⟨plainId_quiet F.plain_extend_loop _, main _ _ _ ?_ (fun x ob hx e => ?_) hL3⟩
  · exact (Heap.get?_update_other _ _ neI).trans ((Heap.get?_update_other _ _ neI).trans at1)
  · exact (Heap.get?_update_other _ _ (Ne.symm hx)).trans ((Heap.get?_update_other _ _ (Ne.symm hx)).trans (Heap.get?_push_of_some _ e))
theorem collect_long {QQ : List Value → Shared → Prop} (calm : B.handled = none) (there : IsRange u0.heap rg i0 j0 c0 q1 q2 q3) (big : Builtin.Range.small i0 j0 c0 = false)
    (many : Builtin.Range.rangeSize i0 j0 c0 = m) (few : m ≤ 2 ^ 24)
    (fin : ∀ (h1 : Heap) (t1 : Nat) (got : Array Value), (∀ x ob, u0.heap.get? x = some ob → h1.get? x = some ob) → ItemsOf (fun k y => ∃ t, y = .int (i0 + k * c0) t) got m → QQ got.toList { u0 with heap := h1, toks := t1 }) :
    wpAny (model pr ww) B (collect (.ref rg)) QQ EE u0 := by
  unfold collect
  refine wpAny_bind (wpAny_runValue (codeAny_builtin F.entry_proto_collect ?_))
  rw [Around.under_plainId F.plain_proto_collect _]
  show wpAny _ B.in1 (newList [] >>= fun z => again (.builtin "list.__iadd__" ⟨[z, .ref rg], []⟩)) _ _ u0
  refine wpAny_bind (wpAny_newObj_type ?_)
  refine wpAny_pure ⟨plainId_quiet F.plain_list_iadd _, codeAny_builtin F.entry_list_iadd ?_⟩
  rw [Around.under_plainId F.plain_list_iadd _]
  show wpAny _ B.in1 (Builtin.List.listExtendWith (.ref u0.heap.objs.size) (.ref rg) (.ref u0.heap.objs.size)) _ _ _
  have hL : (u0.heap.push { cls := .type "list", data := .seq ([] : List Value).toArray }).get? u0.heap.objs.size = some { cls := .type "list", data := .seq #[] 0 } := Heap.get?_push_size _ rfl
  refine wpAny_mono (extend_long (B := B) (u0 := { u0 with heap := u0.heap.push { cls := .type "list", data := .seq ([] : List Value).toArray } })
    (RR := fun r1 u1 => r1 = .ok (.ret (.ref u0.heap.objs.size)) ∧ ∃ (h1 : Heap) (t1 : Nat) (got : Array Value) (e1 : Nat), u1 = { u0 with heap := h1, toks := t1 } ∧
      (∀ x ob, u0.heap.get? x = some ob → h1.get? x = some ob) ∧ h1.get? u0.heap.objs.size = some { cls := .type "list", dict := none, data := .seq got e1, slots := #[] } ∧ ItemsOf (fun k y => ∃ t, y = .int (i0 + k * c0) t) got m)
    calm (Heap.get?_push_of_some _ there) big many few _ _ 0 hL
    (fun h1 t1 got e1 old e its => ⟨rfl, h1, t1, got, e1, rfl, fun x ob z => old x ob (Nat.ne_of_lt (Heap.lt_size z)) (Heap.get?_push_of_some _ z), e, its⟩)) (fun f1 u1 h => ?_) (fun e u1 h => ?_)
  · cases f1 with
    | done f =>
      obtain ⟨e, h1, t1, got, e1, rfl, old, hL1, its⟩ := h
      cases e
      show wpAny _ B (load u0.heap.objs.size >>= _) _ _ _
      exact wpAny_bind (wpAny_load hL1 (wpAny_pure (fin h1 t1 got old its)))
    | again c1 =>
      refine ⟨h.1, codeAny_mono h.2 fun r2 u2 hr2 => ?_⟩
      obtain ⟨rfl, h1, t1, got, e1, rfl, old, hL1, its⟩ := hr2
      show wpAny _ B (load u0.heap.objs.size >>= _) _ _ _
      exact wpAny_bind (wpAny_load hL1 (wpAny_pure (fin h1 t1 got old its)))
  · exact absurd h.1 (by simp)
theorem tuple_new_long {QQ : Value → Shared → Prop} (calm : B.handled = none) (there : IsRange u0.heap rg i0 j0 c0 q1 q2 q3) (big : Builtin.Range.small i0 j0 c0 = false)
    (many : Builtin.Range.rangeSize i0 j0 c0 = m) (few : m ≤ 2 ^ 24)
    (fin : ∀ (h1 : Heap) (t1 : Nat) (got : Array Value), (∀ x ob, u0.heap.get? x = some ob → h1.get? x = some ob) → ItemsOf (fun k y => ∃ t, y = .int (i0 + k * c0) t) got m →
      QQ (.ref h1.objs.size) { u0 with heap := h1.push { cls := .type "tuple", data := .seq got }, toks := t1 }) :
    codeAny (model pr ww) B (.call (.builtin "tuple.__new__") ⟨[.type "tuple", .ref rg], []⟩) (wants QQ EE) u0 := by
  refine codeAny_of_tree ?_
  show wpAny _ B.in1 (do checkBuiltinCall "tuple.__new__" ⟨[.type "tuple", .ref rg], []⟩; again (.builtin "tuple.__new__" ⟨[.type "tuple", .ref rg], []⟩)) _ _ u0
  refine wpAny_bind (wpAny_of_eq (F.newCall_tuple_1 _) (wpAny_pure ⟨plainId_quiet F.plain_tuple_new _, codeAny_builtin F.entry_tuple_new ?_⟩))
  rw [Around.under_plainId F.plain_tuple_new _]
  have g1 := sub_tuple_self
  have g2 := init_tuple_lookup
  have g3 := madeHere_tuple
  have isR : u0.TypeIs (.ref rg) "range" := ⟨_, there, rfl⟩
  have calm1 : B.in1.handled = none := calm
  wp_walk using wpAny_typeOf isR, collect_long (B := B.in1) calm1 there big many few
  intro h1 t1 got old its
  show wpAny _ _ (Builtin.Tuple.tupleExact got.toList.toArray >>= fun z => ret z) _ _ _
  unfold Builtin.Tuple.tupleExact
  refine wpAny_bind (wpAny_newObj_type ?_ (by show got.toList.toArray.size ≤ sizeLine; simp only [Array.toArray_toList]; rw [its.1, sizeLine_eq]; omega))
  refine wpAny_pure ?_
  rw [show got.toList.toArray = got by simp]
  exact fin h1 t1 got old its
theorem call_tuple_long {QQ : Value → Shared → Prop} (calm : B.handled = none) (there : IsRange u0.heap rg i0 j0 c0 q1 q2 q3) (big : Builtin.Range.small i0 j0 c0 = false)
    (many : Builtin.Range.rangeSize i0 j0 c0 = m) (few : m ≤ 2 ^ 24)
    (fin : ∀ (h1 : Heap) (t1 : Nat) (got : Array Value), (∀ x ob, u0.heap.get? x = some ob → h1.get? x = some ob) → ItemsOf (fun k y => ∃ t, y = .int (i0 + k * c0) t) got m →
      QQ (.ref h1.objs.size) { u0 with heap := h1.push { cls := .type "tuple", data := .seq got }, toks := t1 }) :
    wpAny (model pr ww) B (call (.type "tuple") [.ref rg]) QQ EE u0 := by
  refine callType_codes (Q₁ := fun ob u1 => u1.TypeIs ob "tuple" ∧ QQ ob u1) F.called_tuple (F.typeCall_tuple_1 _) F.entry_object_init
    (tuple_new_long (B := B.in1) calm there big many few fun h1 t1 got old its => ⟨⟨_, Heap.get?_push_size _ rfl, rfl⟩, fin h1 t1 got old its⟩) fun ob u1 h => ?_
  exact ⟨h.1, F.args_object_init_2 ob _, object_init_meets F.called_tuple.init.lookup F.called_tuple.made (by decide) pr ww B.in1 _ u1 ⟨h.1, rfl, h.2⟩⟩
theorem call_tuple_rangeA {QQ : Value → Shared → Prop} (calm : B.handled = none) (there : IsRange u0.heap rg i0 j0 c0 q1 q2 q3)
    (many : Builtin.Range.rangeSize i0 j0 c0 = m) (few : m ≤ 2 ^ 24)
    (fin : ∀ (h1 : Heap) (t1 : Nat) (got : Array Value), (∀ x ob, u0.heap.get? x = some ob → h1.get? x = some ob) → ItemsOf (fun k y => ∃ t, y = .int (i0 + k * c0) t) got m →
      QQ (.ref h1.objs.size) { u0 with heap := h1.push { cls := .type "tuple", data := .seq got }, toks := t1 }) :
    wpAny (model pr ww) B (call (.type "tuple") [.ref rg]) QQ EE u0 := by
  by_cases sm : Builtin.Range.small i0 j0 c0 = true
  · exact call_tuple_range calm there sm many few fin
  · exact call_tuple_long calm there (by simpa using sm) many few fin
end
section
variable {X : Cx} {a b c : Expr} {ta : TA}
def tTupRgA (ta : TA) : TE := fun σ H Q => ta σ H fun vs H1 => ∃ (i j c : Int) (n : Nat), vs = [.int i, .int j, .int c] ∧ c ≠ 0 ∧ c.natAbs.log2 < 9000 ∧ Builtin.Range.rangeSize i j c = n ∧ n ≤ 2 ^ 24 ∧
  ∀ q, H1 q = none → Q (.ref q) (upd H1 q (.tup ((rgC i c n).map V.int)))
theorem pe_tupRgA {p pos p2 pos2 : Pos} (hc : X.calm = true) (hg : Gl X "tuple") (hm : X.mg "tuple" = none) (hg2 : Gl X "range") (hm2 : X.mg "range" = none) (ha : PA X [a, b, c] ta)
    (hs : starEach [a, b, c] X.env = (false, eval a X.env) :: starEach [b, c] X.env := by rfl) (hpl : (backTo pos2 (starEach [b, c] X.env)).any (·.1) = false := by rfl)
    (na : starEach [.Call (.Name "range" p2) [a, b, c] [] pos2] X.env = (false, eval (.Call (.Name "range" p2) [a, b, c] [] pos2) X.env) :: starEach [] X.env := by rfl) :
    PE X (.Call (.Name "tuple" p) [.Call (.Name "range" p2) [a, b, c] [] pos2] [] pos) (tTupRgA ta) := by
  refine ⟨fun pins s σ H Q I h => ?_⟩
  refine Call_ (ld_blt I hg hm boot_tuple (PyProof.Rows.callWith_type1 (args_cons (Call_ (ld_blt I hg2 hm2 boot_range (PyProof.Rows.callWith_type1 (thn (ha.run pos2 pins s σ H _ I h) fun us s1 ⟨vs, H1, I1, r1, q1⟩ => ?_) hs hpl))) na) na))
  obtain ⟨i, j, k, n, rfl, hc0, hcl, hsz, hn, q⟩ := q1
  cases r1 with
  | cons ri r2 =>
  cases r2 with
  | cons rj r3 =>
  cases r3 with
  | cons rk r4 =>
  cases r4
  obtain ⟨t1, rfl⟩ := ri
  obtain ⟨t2, rfl⟩ := rj
  obtain ⟨t3, rfl⟩ := rk
  refine call_range_3 hc0 (args_nil ?_) (hp := Or.inl (PyProof.noPylong_of_log2 hcl))
  have hr : IsRange (s1.heap.push { cls := .type "range", data := .fields #[.int i t1, .int j t2, .int k t3] }) s1.heap.objs.size i j k t1 t2 t3 := IsRange.new _ _ _ _ _ _ _
  have I2 : Inv X pins σ H1 { s1 with heap := s1.heap.push { cls := .type "range", data := .fields #[.int i t1, .int j t2, .int k t3] } } := I1.kept (t' := s1.toks) fun b u e => Heap.get?_push_of_some _ e
  refine call_tuple_rangeA (u0 := { s1 with heap := s1.heap.push { cls := .type "range", data := .fields #[.int i t1, .int j t2, .int k t3] } }) (m := n) (I2.ok.hd hc) hr hsz hn fun h' tk acc hk hi => ?_
  have I3 : Inv X pins σ H1 { s1 with heap := h', toks := tk } := I2.kept hk
  refine ⟨.ref h'.objs.size, upd H1 h'.objs.size (.tup ((rgC i k n).map V.int)), I3.laid (t' := tk) (fun c o e => Heap.get?_push_of_some _ e) (Nat.le_refl _) (show ObjOk X.prog X.w _ _ _ (.tup ((rgC i k n).map V.int)) from ⟨?_, acc.toList, ?_, ?_⟩), rfl, q _ (I3.hok.fresh (Nat.le_refl _))⟩
  · unfold rgC
    rw [List.length_map, List.length_map, List.length_range, sizeLine_eq]
    omega
  · have e : acc.toList.length = n := by rw [Array.length_toList]; exact hi.1
    unfold rgC
    rw [List.map_map, ← e]
    refine vals_of_get acc.toList _ fun m u hj => ?_
    obtain ⟨t, rfl⟩ := hi.2 m u (by rw [← hj, Array.getElem?_toList])
    exact ⟨t, rfl⟩
  · rw [Array.toArray_toList]
    exact IsTup.new _ _
end
/-- comb of a number of any size and none chosen -/
theorem gives_comb0 {n : Int} (q1 q2 : Tok) (h : 0 ≤ n) : Gives (Builtin.«math.comb» ⟨[.int n q1, .int 0 q2], []⟩) (.int (PySem.W.mcComb n 0)) := by
  have none : min (0 : Int) (n - 0) = 0 := by omega
  have is : PySem.W.mcComb n 0 = Builtin.Math.fallingProduct n (min 0 (n - 0)).toNat / Builtin.Math.fallingProduct (min 0 (n - 0)) (min 0 (n - 0)).toNat := PySem.W.mcComb_at (Int.le_refl _) h rfl
  have one : Builtin.Math.fallingProduct n (min 0 (n - 0)).toNat / Builtin.Math.fallingProduct (min 0 (n - 0)) (min 0 (n - 0)).toNat = 1 := by
    rw [none]
    rfl
  rw [is]
  refine PySem.W.mc_run_comb n q1 0 q2 (by omega) (by omega) (by omega) ?_ ?_ ?_ ?_
  · rw [none]; decide
  · rw [none]; decide
  · rw [none]; decide
  · rw [one]; decide +kernel
def rCombA : List V → Hp → VK → Prop := fun vs H Q => ∃ a b : Int, vs = [.int a, .int b] ∧ 0 ≤ a ∧ 0 ≤ b ∧ ((a < 2 ^ 64 ∧ b ≤ 9000) ∨ b = 0) ∧ Q (.int (PySem.W.mcComb a b)) H
section
variable {X : Cx}
theorem cr_combA : CallR X (.builtin "math.comb") rCombA := by
  intro pins s σ H vs us Q I r h
  obtain ⟨a, b, rfl, ha, hb, hk, q⟩ := h
  obtain ⟨t, u, rfl⟩ := Vals.int2 r
  rcases hk with ⟨h1, h2⟩ | rfl
  · exact PySem.W.mc_comb ha hb h1 (.inl h2) fun _ => ⟨.int _, H, I.tok _, ⟨_, rfl⟩, q⟩
  · exact call_function_meets PySem.W.MGF.kind_comb PySem.W.MGF.plain_comb PySem.W.MGF.entry_comb (PySem.W.MGF.args_comb _ _) (gives_comb0 t u ha).meets ⟨.int _, H, I.tok _, ⟨_, rfl⟩, q⟩
end
end L2

set_option Elab.async false
set_option linter.all false
set_option maxRecDepth 100000
set_option maxHeartbeats 4000000
namespace T34
open PySem L2 EK
def spCkN (CN : Addr) : Sp := fun vs H Q E => ∃ x m, vs = [x, .int m] ∧ Pl H x ∧ (numB x m = true → Q .non H) ∧ (numB x m = false → ∀ d, H d = none → E (.ref CN) (some d) (upd H d (.xd [("number", x)])))
def spCkNB (CN : Addr) : Sp := fun vs H Q E => ∃ x m n, vs = [x, .int m, .int n] ∧ Pl H x ∧ (numBB x m n = true → Q .non H) ∧ (numBB x m n = false → ∀ d, H d = none → E (.ref CN) (some d) (upd H d (.xd [("number", x)])))
def spCkLen (CN : Addr) : Sp := fun vs H Q E => ∃ x, vs = [x] ∧ Pl H x ∧ (numBB x 0 300 = true → Q .non H) ∧ (numBB x 0 300 = false → ∀ d, H d = none → E (.ref CN) (some d) (upd H d (.xd [("number", x)])))
def spCkSamp (CS : Addr) : Sp := fun vs H Q E => ∃ x len b, vs = [x, .int len] ∧ IsS H len x b ∧ ∀ H', Same H H' → (b = true → Q .non H') ∧ (b = false → ∀ d, H' d = none → E (.ref CS) (some d) (upd H' d (.xd [("samples", x)])))
section
variable {P : Program} {w : World} {K : PySem.W.Frag} {mg : Str → Option Value} {base : Heap}
theorem scCkN : FnScope ["number", "least"] ["number", "least"] (defScope sCkN) := ⟨rfl, rfl, rfl, by decide +kernel, rfl, by decide +kernel, by decide +kernel⟩
theorem scCkNB : FnScope ["number", "least", "greatest"] ["number", "least", "greatest"] (defScope sCkNB) := ⟨rfl, rfl, rfl, by decide +kernel, rfl, by decide +kernel, by decide +kernel⟩
theorem scCkLen : FnScope ["length"] ["length"] (defScope sCkLen) := ⟨rfl, rfl, rfl, by decide +kernel, rfl, by decide +kernel, by decide +kernel⟩
theorem scCkSamp : FnScope ["samples", "length"] ["samples", "length"] (defScope sCkSamp) := ⟨rfl, rfl, rfl, by decide +kernel, rfl, by decide +kernel, by decide +kernel⟩
theorem ok_ckN {f fN CN iN : Addr} {fd fdN : FuncData} (F : Fun K "check_number" "check_number" sCkN f fd) (TN : ErrTxt P K mg "NoNumber" "number" CN iN)
    (GN : FnOk P w K mg base CX0 1 fN fdN ["value", "least"] spNumber) (gN : mg "is_number" = some (.ref fN)) (kN : PySem.W.keepIn K (.ref fN) = true) (bN : Binds K fdN ["value", "least"] []) :
    FnOk P w K mg base (L2.CX P w) 3 f fd ["number", "least"] (spCkN CN) := by
  refine F.okX scCkN (fun vs H Q E h => ?_) (fun cdv A outer s H vs Q E hr h => ?_)
  · obtain ⟨x, m, rfl, _⟩ := h
    rfl
  · obtain ⟨x, m, rfl, hp, k1, k2⟩ := h
    have nd := scCkN.nd
    have hr1 : Room 1 _ := hr.mono (by decide)
    refine ⟨_, pss_one (ps_if (pt_not (pt_val (pe_call GN hr1 rfl gN kN bN .nil pass0 (pa_cons (pv 0) (pa_cons (pv 1) pa_nil))))) (pss_one (ps_raiseErr rfl TN hr (takes_of rfl rfl rfl rfl) (pa_cons (pv 0) pa_nil) rfl)) pss_nil), ?_⟩
    refine ⟨_, rfl, _, rfl, x, m, rfl, hp, _, rfl, ?_⟩
    by_cases hb : numB x m = true
    · rw [hb]
      exact k1 hb
    · rw [Bool.not_eq_true] at hb
      rw [hb]
      exact ⟨_, rfl, x, rfl, fun d hd => k2 hb d hd⟩
theorem ok_ckNB {f fB CN iN : Addr} {fd fdB : FuncData} (F : Fun K "check_number_between" "check_number_between" sCkNB f fd) (TN : ErrTxt P K mg "NoNumber" "number" CN iN)
    (GB : FnOk P w K mg base CX0 2 fB fdB ["value", "least", "greatest"] spNB) (gB : mg "is_number_between" = some (.ref fB)) (kB : PySem.W.keepIn K (.ref fB) = true) (bB : Binds K fdB ["value", "least", "greatest"] []) :
    FnOk P w K mg base (L2.CX P w) 3 f fd ["number", "least", "greatest"] (spCkNB CN) := by
  refine F.okX scCkNB (fun vs H Q E h => ?_) (fun cdv A outer s H vs Q E hr h => ?_)
  · obtain ⟨x, m, n, rfl, _⟩ := h
    rfl
  · obtain ⟨x, m, n, rfl, hp, k1, k2⟩ := h
    have nd := scCkNB.nd
    have hr2 : Room 2 _ := hr
    refine ⟨_, pss_one (ps_if (pt_not (pt_val (pe_call GB hr2 rfl gB kB bB .nil pass0 (pa_cons (pv 0) (pa_cons (pv 1) (pa_cons (pv 2) pa_nil)))))) (pss_one (ps_raiseErr rfl TN hr (takes_of rfl rfl rfl rfl) (pa_cons (pv 0) pa_nil) rfl)) pss_nil), ?_⟩
    refine ⟨_, rfl, _, rfl, _, rfl, x, m, n, rfl, hp, _, rfl, ?_⟩
    by_cases hb : numBB x m n = true
    · rw [hb]
      exact k1 hb
    · rw [Bool.not_eq_true] at hb
      rw [hb]
      exact ⟨_, rfl, x, rfl, fun d hd => k2 hb d hd⟩
theorem ok_ckLen {f fCB CN : Addr} {fd fdCB : FuncData} (F : Fun K "check_length" "check_length" sCkLen f fd) (T : TxtC K mg)
    (GCB : FnOk P w K mg base (L2.CX P w) 3 fCB fdCB ["number", "least", "greatest"] (spCkNB CN)) (gCB : mg "check_number_between" = some (.ref fCB)) (kCB : PySem.W.keepIn K (.ref fCB) = true) (bCB : Binds K fdCB ["number", "least", "greatest"] []) :
    FnOk P w K mg base (L2.CX P w) 4 f fd ["length"] (spCkLen CN) := by
  refine F.okX scCkLen (fun vs H Q E h => ?_) (fun cdv A outer s H vs Q E hr h => ?_)
  · obtain ⟨x, rfl, _⟩ := h
    rfl
  · obtain ⟨x, rfl, hp, k1, k2⟩ := h
    have hr3 : Room 3 _ := hr
    refine ⟨_, (pss_one (ps_expr (pe_call GCB hr3 rfl gCB kCB bCB .nil (passes_call (takes_of rfl rfl rfl rfl) fun _ _ _ _ h => h) (pa_cons (pv 0) (pa_cons pe_int (pa_cons (C8.pe_gc (by rfl) T.most) pa_nil)))))), ?_⟩
    exact ⟨_, rfl, x, 0, 300, rfl, hp, k1, k2⟩
theorem ok_ckSamp {f fS CS iS : Addr} {fd fdS : FuncData} (F : Fun K "check_sampling" "check_sampling" sCkSamp f fd) (TS : ErrTxt P K mg "NoSampling" "samples" CS iS)
    (GS : FnOk P w K mg base CX0 3 fS fdS ["value", "length"] spSamp) (gS : mg "is_sampling" = some (.ref fS)) (kS : PySem.W.keepIn K (.ref fS) = true) (bS : Binds K fdS ["value", "length"] []) :
    FnOk P w K mg base (L2.CX P w) 4 f fd ["samples", "length"] (spCkSamp CS) := by
  refine F.okX scCkSamp (fun vs H Q E h => ?_) (fun cdv A outer s H vs Q E hr h => ?_)
  · obtain ⟨x, len, b, rfl, _⟩ := h
    rfl
  · obtain ⟨x, len, b, rfl, hc, k⟩ := h
    have hr3 : Room 3 _ := hr
    refine ⟨_, pss_one (ps_if (pt_not (pt_val (pe_call GS hr3 rfl gS kS bS .nil pass0 (pa_cons (pv 0) (pa_cons (pv 1) pa_nil))))) (pss_one (ps_raiseErr rfl TS hr (takes_of rfl rfl rfl rfl) (pa_cons (pv 0) pa_nil) rfl)) pss_nil), ?_⟩
    refine ⟨_, rfl, _, rfl, x, len, b, rfl, hc, fun H1 s1 => ⟨_, rfl, ?_⟩⟩
    obtain ⟨k1, k2⟩ := k H1 s1
    by_cases hb : b = true
    · rw [hb]
      exact k1 hb
    · rw [Bool.not_eq_true] at hb
      rw [hb]
      exact ⟨_, rfl, x, rfl, fun d hd => k2 hb d hd⟩
end
/-- refused, by the length or the steps -/
def bad2 (CN : Addr) (x y : V) (H : Hp) (E : XK) : Prop := (numBB x 0 300 = false → ∀ d, H d = none → E (.ref CN) (some d) (upd H d (.xd [("number", x)]))) ∧ (numBB x 0 300 = true → numB y 0 = false → ∀ d, H d = none → E (.ref CN) (some d) (upd H d (.xd [("number", y)])))
def leastM (l s : Int) : Int := l / (s + 1) + 1
def numM (l s : Int) : Int := (l + 1) * PySem.W.mcComb (leastM l s * (s + 1) - (l + 1) + leastM l s - 1) (leastM l s - 1) / leastM l s
def firstM (l s : Int) : List Int := 0 :: rgC (l + 1 - (leastM l s - 1) * (s + 1)) (s + 1) (Builtin.Range.rangeSize (l + 1 - (leastM l s - 1) * (s + 1)) (l + 1) (s + 1)).toNat
def gapsM (len : Int) (ns : List Int) : List Int := List.zipWith (fun a b => b - a) ns (ns.tail ++ [ns.headD 0 + len + 1])
def spLeast (CN : Addr) : Sp := fun vs H Q E => ∃ x y, vs = [x, y] ∧ Pl H x ∧ Pl H y ∧ bad2 CN x y H E ∧ ∀ l s : Int, x = .int l → y = .int s → 0 ≤ l → l ≤ 300 → 0 ≤ s → s < 2 ^ 200 ∧ Q (.int (leastM l s)) H
def spNum (CN : Addr) : Sp := fun vs H Q E => ∃ x y, vs = [x, y] ∧ Pl H x ∧ Pl H y ∧ bad2 CN x y H E ∧ ∀ l s : Int, x = .int l → y = .int s → 0 ≤ l → l ≤ 300 → 0 ≤ s → s < 2 ^ 200 ∧ Q (.int (numM l s)) H
def spFirst (CN : Addr) : Sp := fun vs H Q E => ∃ x y, vs = [x, y] ∧ Pl H x ∧ Pl H y ∧ bad2 CN x y H E ∧ ∀ l s : Int, x = .int l → y = .int s → 0 ≤ l → l ≤ 300 → 0 ≤ s → s < 2 ^ 200 ∧ ∀ p H1, Same H H1 → H1 p = some (.tup ((firstM l s).map V.int)) → Q (.ref p) H1
def spMost (CN CS : Addr) : Sp := fun vs H Q E => ∃ x y, vs = [x, y] ∧ Pl H x ∧ (numBB x 0 300 = false → ∀ d, H d = none → E (.ref CN) (some d) (upd H d (.xd [("number", x)]))) ∧ ∀ len : Int, x = .int len → 0 ≤ len → len ≤ 300 → ∃ b, IsS H len y b ∧
  (b = false → ∀ H1 d, Same H H1 → H1 d = none → E (.ref CS) (some d) (upd H1 d (.xd [("samples", y)]))) ∧ (b = true → ∀ a ns, y = .ref a → H a = some (.tup (ns.map V.int)) → ∀ m H1, Same H H1 → m ∈ gapsM len ns → (∀ z ∈ gapsM len ns, z ≤ m) → Q (.int (m - 1)) H1)
theorem log_small {t : Int} (h0 : 0 ≤ t) (h : t < 2 ^ 200) : (t + 1).natAbs.log2 < 9000 := by
  have h1 : (t + 1).natAbs < 2 ^ 201 := by
    have : (t + 1).natAbs = t.toNat + 1 := by omega
    rw [this]
    have h2 : t.toNat < 2 ^ 200 := by omega
    omega
  exact Nat.lt_of_lt_of_le ((Nat.log2_lt (by omega)).mpr h1) (by decide)
theorem least_bd {l s : Int} (h1 : 0 ≤ l) (h2 : l ≤ 300) (h3 : 0 ≤ s) : 1 ≤ leastM l s ∧ leastM l s ≤ 301 ∧ l + 1 ≤ leastM l s * (s + 1) ∧ leastM l s * (s + 1) ≤ l + s + 1 ∧ (leastM l s - 1) * (s + 1) ≤ l := by
  unfold leastM
  have a1 := Int.ediv_nonneg h1 (show 0 ≤ s + 1 by omega)
  have a2 := Int.ediv_le_self (s + 1) h1
  have a3 := Int.lt_ediv_add_one_mul_self l (show 0 < s + 1 by omega)
  have a4 := Int.ediv_mul_le l (show s + 1 ≠ 0 by omega)
  have a5 : (l / (s + 1) + 1) * (s + 1) = l / (s + 1) * (s + 1) + (s + 1) := by rw [Int.add_mul, Int.one_mul]
  have a6 : (l / (s + 1) + 1 - 1) * (s + 1) = l / (s + 1) * (s + 1) := by rw [Int.add_sub_cancel]
  omega
section
variable {P : Program} {w : World} {K : PySem.W.Frag} {mg : Str → Option Value} {base : Heap} {CN CS fCL fCN fCS fL : Addr} {fdCL fdCN fdCS fdL : FuncData}
theorem scMost : FnScope ["length", "samples", "nexts", "sample", "after"] ["length", "samples"] (defScope sMost) := ⟨rfl, rfl, rfl, by decide +kernel, rfl, by decide +kernel, by decide +kernel⟩
theorem scLeast : FnScope ["length", "steps"] ["length", "steps"] (defScope sLeast) := ⟨rfl, rfl, rfl, by decide +kernel, rfl, by decide +kernel, by decide +kernel⟩
theorem scNumber : FnScope ["length", "steps", "places", "many", "spare", "gaps"] ["length", "steps"] (defScope sNumber) := ⟨rfl, rfl, rfl, by decide +kernel, rfl, by decide +kernel, by decide +kernel⟩
theorem scFirst : FnScope ["length", "steps", "places", "many", "second"] ["length", "steps"] (defScope sFirst) := ⟨rfl, rfl, rfl, by decide +kernel, rfl, by decide +kernel, by decide +kernel⟩
theorem ok_least {f : Addr} {fd : FuncData} (F : Fun K "least_samples" "least_samples" sLeast f fd)
    (GCL : FnOk P w K mg base (L2.CX P w) 4 fCL fdCL ["length"] (spCkLen CN)) (gCL : mg "check_length" = some (.ref fCL)) (kCL : PySem.W.keepIn K (.ref fCL) = true) (bCL : Binds K fdCL ["length"] [])
    (GCN : FnOk P w K mg base (L2.CX P w) 3 fCN fdCN ["number", "least"] (spCkN CN)) (gCN : mg "check_number" = some (.ref fCN)) (kCN : PySem.W.keepIn K (.ref fCN) = true) (bCN : Binds K fdCN ["number", "least"] []) :
    FnOk P w K mg base (L2.CX P w) 5 f fd ["length", "steps"] (spLeast CN) := by
  refine F.okX scLeast (fun vs H Q E h => ?_) (fun cdv A outer s H vs Q E hr h => ?_)
  · obtain ⟨x, y, rfl, _⟩ := h
    rfl
  · obtain ⟨x, y, rfl, px, py, ⟨b1, b2⟩, k⟩ := h
    have nd := scLeast.nd
    have hr4 : Room 4 _ := hr
    have hr3 : Room 3 _ := hr.mono (by decide)
    refine ⟨_, (pss_cons (ps_expr (pe_call GCL hr4 rfl gCL kCL bCL .nil (passes_call (takes_of rfl rfl rfl rfl) fun _ _ _ _ h => h) (pa_cons (pv 0) pa_nil)))
      (pss_cons (ps_expr (pe_call GCN hr3 rfl gCN kCN bCN .nil (passes_call (takes_of rfl rfl rfl rfl) fun _ _ _ _ h => h) (pa_cons (pv 1) (pa_cons pe_int pa_nil))))
      (pss_one (ps_ret (pe_op op_add (pe_op op_fdivW (pv 0) (pe_op op_add (pv 1) pe_int)) pe_int))))), ?_⟩
    refine ⟨_, rfl, x, rfl, px, fun hx => ?_, fun hx => b1 hx⟩
    refine ⟨_, rfl, y, 0, rfl, py, fun hy => ?_, fun hy => b2 hx hy⟩
    obtain ⟨l, rfl, l1, l2⟩ := numBB_int hx
    obtain ⟨t, rfl, t1⟩ := numB_int hy
    obtain ⟨t2, q⟩ := k l t rfl rfl l1 l2 t1
    exact ⟨_, rfl, _, rfl, _, _, rfl, rfl, _, _, rfl, rfl, ⟨by omega, log_small (by omega) t2⟩, _, _, rfl, rfl, q⟩
theorem ok_number {f : Addr} {fd : FuncData} (F : Fun K "samplings_number" "samplings_number" sNumber f fd) (T : TxtC K mg)
    (GCL : FnOk P w K mg base (L2.CX P w) 4 fCL fdCL ["length"] (spCkLen CN)) (gCL : mg "check_length" = some (.ref fCL)) (kCL : PySem.W.keepIn K (.ref fCL) = true) (bCL : Binds K fdCL ["length"] [])
    (GCN : FnOk P w K mg base (L2.CX P w) 3 fCN fdCN ["number", "least"] (spCkN CN)) (gCN : mg "check_number" = some (.ref fCN)) (kCN : PySem.W.keepIn K (.ref fCN) = true) (bCN : Binds K fdCN ["number", "least"] [])
    (GL : FnOk P w K mg base (L2.CX P w) 5 fL fdL ["length", "steps"] (spLeast CN)) (gL : mg "least_samples" = some (.ref fL)) (kL : PySem.W.keepIn K (.ref fL) = true) (bL : Binds K fdL ["length", "steps"] []) :
    FnOk P w K mg base (L2.CX P w) 6 f fd ["length", "steps"] (spNum CN) := by
  refine F.okX scNumber (fun vs H Q E h => ?_) (fun cdv A outer s H vs Q E hr h => ?_)
  · obtain ⟨x, y, rfl, _⟩ := h
    rfl
  · obtain ⟨x, y, rfl, px, py, ⟨b1, b2⟩, k⟩ := h
    have nd := scNumber.nd
    have hr5 : Room 5 _ := hr
    have hr4 : Room 4 _ := hr.mono (by decide)
    have hr3 : Room 3 _ := hr.mono (by decide)
    refine ⟨_, (pss_cons (ps_expr (pe_call GCL hr4 rfl gCL kCL bCL .nil (passes_call (takes_of rfl rfl rfl rfl) fun _ _ _ _ h => h) (pa_cons (pv 0) pa_nil)))
      (pss_cons (ps_expr (pe_call GCN hr3 rfl gCN kCN bCN .nil (passes_call (takes_of rfl rfl rfl rfl) fun _ _ _ _ h => h) (pa_cons (pv 1) (pa_cons pe_int pa_nil))))
      (pss_cons (ps_set (i := 2) nd rfl (Or.inl rfl) (pe_op op_add (pv 0) pe_int))
      (pss_cons (ps_set (i := 3) nd rfl (Or.inl rfl) (pe_call GL hr5 rfl gL kL bL .nil (passes_call (takes_of rfl rfl rfl rfl) fun _ _ _ _ h => h) (pa_cons (pv 0) (pa_cons (pv 1) pa_nil))))
      (pss_cons (ps_set (i := 4) nd rfl (Or.inl rfl) (pe_op op_sub (pe_op op_mul (pv 3) (pe_op op_add (pv 1) pe_int)) (pv 2)))
      (pss_cons (ps_set (i := 5) nd rfl (Or.inl rfl) (pe_callBfun cr_combA (by rfl) T.comb (pa_cons (pe_op op_sub (pe_op op_add (pv 4) (pv 3)) pe_int) (pa_cons (pe_op op_sub (pv 3) pe_int) pa_nil))))
      (pss_one (ps_ret (pe_op op_fdiv (pe_op op_mul (pv 2) (pv 5)) (pv 3)))))))))), ?_⟩
    refine ⟨_, rfl, x, rfl, px, fun hx => ?_, fun hx => b1 hx⟩
    refine ⟨_, rfl, y, 0, rfl, py, fun hy => ?_, fun hy => b2 hx hy⟩
    obtain ⟨l, rfl, l1, l2⟩ := numBB_int hx
    obtain ⟨t, rfl, t1⟩ := numB_int hy
    obtain ⟨t2, q⟩ := k l t rfl rfl l1 l2 t1
    obtain ⟨m1, m2, m3, m4, m5⟩ := least_bd l1 l2 t1
    refine ⟨_, rfl, _, _, rfl, rfl, _, rfl, _, rfl, _, _, rfl, px, py, ⟨fun z => absurd hx (by rw [z]; decide), fun _ z => absurd hy (by rw [z]; decide)⟩, fun l' s' e1 e2 _ _ _ => ?_⟩
    cases e1
    cases e2
    refine ⟨t2, ?_⟩
    refine ⟨_, rfl, _, rfl, _, _, rfl, rfl, _, _, rfl, rfl, .inl ⟨by omega, by omega⟩, _, rfl, _, _, rfl, rfl, ?_⟩
    have hk : (leastM l t * (t + 1) - (l + 1) + leastM l t - 1 < 2 ^ 64 ∧ leastM l t - 1 ≤ 9000) ∨ leastM l t - 1 = 0 := by
      by_cases hb : t < 2 ^ 60
      · exact .inl ⟨by omega, by omega⟩
      · right
        have h1 : l / (t + 1) = 0 := Int.ediv_eq_zero_of_lt l1 (by omega)
        show l / (t + 1) + 1 - 1 = 0
        omega
    refine ⟨_, rfl, _, rfl, _, _, rfl, rfl, _, _, rfl, rfl, _, rfl, _, _, rfl, rfl, _, _, rfl, by omega, by omega, hk, ?_⟩
    exact ⟨_, rfl, _, rfl, _, _, rfl, rfl, .inl ⟨by omega, by omega⟩, _, rfl, _, _, rfl, rfl, ⟨by omega, by omega⟩, q⟩
theorem ok_first {f : Addr} {fd : FuncData} (F : Fun K "first_sampling" "first_sampling" sFirst f fd) (T : TxtC K mg)
    (GCL : FnOk P w K mg base (L2.CX P w) 4 fCL fdCL ["length"] (spCkLen CN)) (gCL : mg "check_length" = some (.ref fCL)) (kCL : PySem.W.keepIn K (.ref fCL) = true) (bCL : Binds K fdCL ["length"] [])
    (GCN : FnOk P w K mg base (L2.CX P w) 3 fCN fdCN ["number", "least"] (spCkN CN)) (gCN : mg "check_number" = some (.ref fCN)) (kCN : PySem.W.keepIn K (.ref fCN) = true) (bCN : Binds K fdCN ["number", "least"] [])
    (GL : FnOk P w K mg base (L2.CX P w) 5 fL fdL ["length", "steps"] (spLeast CN)) (gL : mg "least_samples" = some (.ref fL)) (kL : PySem.W.keepIn K (.ref fL) = true) (bL : Binds K fdL ["length", "steps"] []) :
    FnOk P w K mg base (L2.CX P w) 6 f fd ["length", "steps"] (spFirst CN) := by
  refine F.okX scFirst (fun vs H Q E h => ?_) (fun cdv A outer s H vs Q E hr h => ?_)
  · obtain ⟨x, y, rfl, _⟩ := h
    rfl
  · obtain ⟨x, y, rfl, px, py, ⟨b1, b2⟩, k⟩ := h
    have nd := scFirst.nd
    have hr5 : Room 5 _ := hr
    have hr4 : Room 4 _ := hr.mono (by decide)
    have hr3 : Room 3 _ := hr.mono (by decide)
    refine ⟨_, (pss_cons (ps_expr (pe_call GCL hr4 rfl gCL kCL bCL .nil (passes_call (takes_of rfl rfl rfl rfl) fun _ _ _ _ h => h) (pa_cons (pv 0) pa_nil)))
      (pss_cons (ps_expr (pe_call GCN hr3 rfl gCN kCN bCN .nil (passes_call (takes_of rfl rfl rfl rfl) fun _ _ _ _ h => h) (pa_cons (pv 1) (pa_cons pe_int pa_nil))))
      (pss_cons (ps_set (i := 2) nd rfl (Or.inl rfl) (pe_op op_add (pv 0) pe_int))
      (pss_cons (ps_set (i := 3) nd rfl (Or.inl rfl) (pe_call GL hr5 rfl gL kL bL .nil (passes_call (takes_of rfl rfl rfl rfl) fun _ _ _ _ h => h) (pa_cons (pv 0) (pa_cons (pv 1) pa_nil))))
      (pss_cons (ps_set (i := 4) nd rfl (Or.inl rfl) (pe_op op_sub (pv 2) (pe_op op_mul (pe_op op_sub (pv 3) pe_int) (pe_op op_add (pv 1) pe_int))))
      (pss_one (ps_ret (pe_op op_catA (pe_tup (pa_cons pe_int pa_nil)) (pe_tupRgA rfl (by rfl) T.tuple (by rfl) T.range (pa_cons (pv 4) (pa_cons (pv 2) (pa_cons (pe_op op_add (pv 1) pe_int) pa_nil)))))))))))), ?_⟩
    refine ⟨_, rfl, x, rfl, px, fun hx => ?_, fun hx => b1 hx⟩
    refine ⟨_, rfl, y, 0, rfl, py, fun hy => ?_, fun hy => b2 hx hy⟩
    obtain ⟨l, rfl, l1, l2⟩ := numBB_int hx
    obtain ⟨t, rfl, t1⟩ := numB_int hy
    obtain ⟨t2, q⟩ := k l t rfl rfl l1 l2 t1
    obtain ⟨m1, m2, m3, m4, m5⟩ := least_bd l1 l2 t1
    refine ⟨_, rfl, _, _, rfl, rfl, _, rfl, _, rfl, _, _, rfl, px, py, ⟨fun z => absurd hx (by rw [z]; decide), fun _ z => absurd hy (by rw [z]; decide)⟩, fun l' s' e1 e2 _ _ _ => ?_⟩
    cases e1
    cases e2
    refine ⟨t2, ?_⟩
    refine ⟨_, rfl, _, rfl, _, _, rfl, rfl, _, rfl, _, _, rfl, rfl, _, _, rfl, rfl, .inl ⟨by omega, by omega⟩, _, _, rfl, rfl, ?_⟩
    refine ⟨(by show 1 ≤ sizeLine; decide), fun p1 z1 => ?_⟩
    obtain ⟨H1, e1, S1, A1⟩ := alloc (o := .tup [.int 0]) z1
    rw [e1]
    have hlen := PyProof.Rows.rangeSize_toNat_le (l + 1 - (leastM l t - 1) * (t + 1)) (l + 1) (t + 1)
    have h0 : 0 ≤ (leastM l t - 1) * (t + 1) := Int.mul_nonneg (by omega) (by omega)
    refine ⟨_, rfl, _, rfl, _, rfl, _, _, rfl, rfl, _, _, _, _, rfl, by omega, log_small (by omega) t2, PyProof.Rows.rangeSize_toNat _ _ _, by omega, fun p2 z2 => ?_⟩
    obtain ⟨H2, e2, S2, A2⟩ := alloc (o := .tup ((rgC (l + 1 - (leastM l t - 1) * (t + 1)) (t + 1) (Builtin.Range.rangeSize (l + 1 - (leastM l t - 1) * (t + 1)) (l + 1) (t + 1)).toNat).map V.int)) z2
    rw [e2]
    refine ⟨p1, p2, _, _, rfl, rfl, .of (S2 _ _ A1), .of A2, ?_, fun z => (by cases z), fun _ z => ?_, fun _ _ p3 z3 => ?_⟩
    · have : sizeLine = 2 ^ 24 := sizeLine_eq
      unfold rgC
      rw [List.length_map, List.length_map, List.length_range]
      show 1 + _ ≤ _
      omega
    · refine q _ _ (S1.trans S2) ?_
      have e4 : (firstM l t).map V.int = [.int 0] := by
        unfold firstM
        rw [List.map_cons, z]
      rw [e4]
      exact S2 _ _ A1
    · obtain ⟨H3, e3, S3, A3⟩ := alloc (o := .tup ([.int 0] ++ (rgC (l + 1 - (leastM l t - 1) * (t + 1)) (t + 1) (Builtin.Range.rangeSize (l + 1 - (leastM l t - 1) * (t + 1)) (l + 1) (t + 1)).toNat).map V.int)) z3
      rw [e3]
      exact q _ _ ((S1.trans S2).trans S3) A3
end
end T34

set_option Elab.async false
set_option linter.all false
set_option maxRecDepth 100000
set_option maxHeartbeats 4000000
namespace T34
open PySem L2 EK
theorem cut_tail (xs : List V) (h : xs ≠ []) : cutV xs (some 1) none = xs.tail ∧ ¬ (HT.sIx xs.length 0 (some 1) = 0 ∧ HT.sIx xs.length xs.length none = xs.length) := by
  cases xs with
  | nil => exact absurd rfl h
  | cons x r =>
    have e : HT.sIx (x :: r).length 0 (some 1) = 1 := by
      unfold HT.sIx
      show (if (1 : Int) < 0 then ((1 : Int) + (((x :: r).length : Nat) : Int)).toNat else min (1 : Int).toNat (x :: r).length) = 1
      rw [if_neg (by decide), List.length_cons]
      show min 1 (r.length + 1) = 1
      omega
    constructor
    · unfold cutV
      rw [e]
      have e2 : HT.sIx (x :: r).length (x :: r).length none = r.length + 1 := rfl
      rw [e2]
      show List.take (r.length + 1 - 1) r = r
      rw [Nat.add_sub_cancel, List.take_length]
    · rw [e]
      intro z
      exact absurd z.1 (by decide)
theorem gaps_len (len : Int) (ns : List Int) (h : ns ≠ []) : (gapsM len ns).length = ns.length := by
  unfold gapsM
  cases ns with
  | nil => exact absurd rfl h
  | cons n r => simp
theorem gaps_at (len : Int) (ns : List Int) (i : Nat) (a b : Int) (h1 : ns[i]? = some a) (h2 : (ns.tail ++ [ns.headD 0 + len + 1])[i]? = some b) : (gapsM len ns)[i]? = some (b - a) := by
  unfold gapsM
  rw [List.getElem?_zipWith, h1, h2]
section
variable {P : Program} {w : World} {K : PySem.W.Frag} {mg : Str → Option Value} {base : Heap} {CN CS fCL fCS : Addr} {fdCL fdCS : FuncData}
theorem ok_most {f : Addr} {fd : FuncData} (F : Fun K "most_steps" "most_steps" sMost f fd) (T : TxtC K mg)
    (GCL : FnOk P w K mg base (L2.CX P w) 4 fCL fdCL ["length"] (spCkLen CN)) (gCL : mg "check_length" = some (.ref fCL)) (kCL : PySem.W.keepIn K (.ref fCL) = true) (bCL : Binds K fdCL ["length"] [])
    (GCS : FnOk P w K mg base (L2.CX P w) 4 fCS fdCS ["samples", "length"] (spCkSamp CS)) (gCS : mg "check_sampling" = some (.ref fCS)) (kCS : PySem.W.keepIn K (.ref fCS) = true) (bCS : Binds K fdCS ["samples", "length"] []) :
    FnOk P w K mg base (L2.CX P w) 5 f fd ["length", "samples"] (spMost CN CS) := by
  refine F.okX scMost (fun vs H Q E h => ?_) (fun cdv A outer s H vs Q E hr h => ?_)
  · obtain ⟨x, y, rfl, _⟩ := h
    rfl
  · obtain ⟨x, y, rfl, px, b1, k⟩ := h
    have nd := scMost.nd
    have hr4 : Room 4 _ := hr
    refine ⟨_, (pss_cons (ps_expr (pe_call GCL hr4 rfl gCL kCL bCL .nil (passes_call (takes_of rfl rfl rfl rfl) fun _ _ _ _ h => h) (pa_cons (pv 0) pa_nil)))
      (pss_cons (ps_expr (pe_call GCS hr4 rfl gCS kCS bCS .nil (passes_call (takes_of rfl rfl rfl rfl) fun _ _ _ _ h => h) (pa_cons (pv 1) (pa_cons (pv 0) pa_nil))))
      (pss_cons (ps_set (i := 2) nd rfl (Or.inl rfl) (pe_op op_catA (pe_slice sl_tupA (pv 1) (po_some pe_int) po_none) (pe_tup (pa_cons (pe_op op_add (pe_op op_add (pe_ix ix_tup (pv 1) pe_int (fun _ _ => rfl)) (pv 0)) pe_int) pa_nil))))
      (pss_one (ps_ret (pe_op op_sub (pe_callB (cr_max rfl) (by rfl) T.max (by decide +kernel) (pa_cons (pe_lc (own := [("sample", 3), ("after", 4)]) (g := gTup _ 2 (gCons (gName 3) (gCons (gName 4) gNil))) (tt := tYes) rfl nd (RZ.pi_zipA (by rfl) T.zip (pa_cons (pv 1) (pa_cons (pv 2) pa_nil))) (blkOk_by (N := ["length", "samples", "nexts", "sample", "after"]) (sc := defScope sMost) (by decide +kernel)) (fun _ _ _ _ _ => (pg_tup rfl (pgs_cons (pg_name (i := 3) nd rfl (Or.inl rfl)) (pgs_cons (pg_name (i := 4) nd rfl (Or.inl rfl)) pgs_nil)))) (fun _ _ _ _ _ => pts_nil) (fun _ _ _ _ _ => (pe_op op_sub (pv 4) (pv 3)))) pa_nil)) pe_int)))))), ?_⟩
    refine ⟨_, rfl, x, rfl, px, fun hx => ?_, fun hx => b1 hx⟩
    obtain ⟨len, rfl, l1, l2⟩ := numBB_int hx
    obtain ⟨b, hS, kF, kT⟩ := k len rfl l1 l2
    refine ⟨_, rfl, _, rfl, y, len, b, rfl, hS, fun H1 s1 => ⟨fun hb => ?_, fun hb d hd => kF hb H1 d s1 hd⟩⟩
    subst hb
    obtain ⟨a, ns, rfl, ha, hne⟩ : ∃ a ns, y = .ref a ∧ H a = some (.tup (ns.map V.int)) ∧ ns ≠ [] := by
      generalize hb : true = b at hS
      cases hS with
      | no p n => cases hb
      | @tup a xs e p l =>
        unfold sampB at hb
        have hb := hb.symm
        rw [Bool.and_eq_true, Bool.and_eq_true] at hb
        refine ⟨a, xs.map valI, rfl, ?_, fun z => ?_⟩
        · rw [← all_ints hb.1.2]
          exact e
        · have : xs = [] := List.map_eq_nil_iff.mp z
          rw [this] at hb
          exact absurd hb.1.1 (by simp)
    have ha1 := s1 _ _ ha
    have hnev : ns.map V.int ≠ [] := fun z => hne (List.map_eq_nil_iff.mp z)
    have hlen : ns.length ≤ 400 := by
      generalize hb : true = b at hS
      cases hS with
      | no p n => cases hb
      | tup e p l =>
        rw [ha] at e
        cases e
        rw [List.length_map] at l
        exact l
    have hz : sizeLine = 2 ^ 24 := sizeLine_eq
    obtain ⟨ct, cw⟩ := cut_tail (ns.map V.int) hnev
    have ct2 : (ns.map V.int).tail = ns.tail.map V.int := by rw [List.map_tail]
    refine ⟨_, rfl, _, rfl, a, ns.map V.int, rfl, .of ha1, fun z => absurd z cw, fun _ p1 z1 => ?_⟩
    rw [ct, ct2]
    obtain ⟨H2, e2, S2, A2⟩ := alloc (o := .tup (ns.tail.map V.int)) z1
    rw [e2]
    obtain ⟨n0, hn0⟩ : ∃ n0, ns[0]? = some n0 := by
      cases ns with
      | nil => exact absurd rfl hne
      | cons n r => exact ⟨n, rfl⟩
    have hh : ns.headD 0 = n0 := by
      cases ns with
      | nil => exact absurd rfl hne
      | cons n r => cases hn0; rfl
    have hat : atI (ns.map V.int) ((0 : Nat) : Int) = some (.int n0) := atI_nat (by rw [List.getElem?_map, hn0]; rfl)
    refine ⟨_, rfl, a, _, 0, _, rfl, rfl, .of (S2 _ _ ha1), hat, _, rfl, _, _, rfl, rfl, _, _, rfl, rfl, (by show 1 ≤ sizeLine; decide), fun p2 z2 => ?_⟩
    obtain ⟨H3, e3, S3, A3⟩ := alloc (o := .tup [.int (n0 + len + 1)]) z2
    rw [e3]
    refine catA_ok (S3 _ _ A2) A3 (by rw [List.length_map, List.length_tail]; show _ + 1 ≤ _; omega) fun p3 H4 S4 A4 => ?_
    have A4 : H4 p3 = some (.tup ((ns.tail ++ [n0 + len + 1]).map V.int)) := by
      rw [A4, List.map_append]
      rfl
    have s4 : Same H1 H4 := ((S2.trans S3).trans S4)
    have hl2 : (ns.tail ++ [n0 + len + 1]).length = ns.length := by
      rw [List.length_append, List.length_tail]
      have : ns.length ≠ 0 := fun z => hne (List.length_eq_zero_iff.mp z)
      show ns.length - 1 + 1 = _
      omega
    have hgl := gaps_len len ns hne
    refine ⟨_, rfl, _, rfl, a, p3, _, _, rfl, .inr ⟨.of (s4 _ _ ha1), .of A4, fun D nD => ?_⟩⟩
    refine lc_it (walk_zipT (xs := ns.map V.int) (ys := (ns.tail ++ [n0 + len + 1]).map V.int) (n := ns.length) (by rw [List.length_map, List.length_map, hl2]; omega)) (LcP H4 D RInt (gapsM len ns) (fun _ => true) id) (lcP_zero nD) (fun i H _ p => ⟨.of (p.1 _ _ (s4 _ _ ha1)), .of (p.1 _ _ A4)⟩) ?_ ?_
    · rintro i z H5 H6 hi p5 ⟨T0, x1, y1, rfl, hT, rfl, e1, e2⟩
      have e1 : (ns.map V.int)[i]? = some x1 := e1
      have e2 : ((ns.tail ++ [n0 + len + 1]).map V.int)[i]? = some y1 := e2
      rw [List.getElem?_map] at e1 e2
      obtain ⟨u, hu, rfl⟩ := Option.map_eq_some_iff.mp e1
      obtain ⟨v, hv, rfl⟩ := Option.map_eq_some_iff.mp e2
      have hg : (gapsM len ns)[i]? = some (v - u) := gaps_at len ns i u v hu (by rw [hh]; exact hv)
      obtain ⟨H6, f6, S6, A6⟩ := alloc (o := .tup [V.int u, V.int v]) hT
      rw [f6]
      refine ⟨T0, _, rfl, .of A6, rfl, _, _, rfl, _, _, rfl, rfl, rfl, _, rfl, _, rfl, _, _, rfl, rfl, ?_⟩
      exact lcP_put nD rint_keep (by rw [hgl]; omega) hg p5 rfl S6 rfl
    · intro H5 p5
      obtain ⟨s5, ys, hD, ha5⟩ := p5
      rw [show (gapsM len ns).take ns.length = gapsM len ns from List.take_of_length_le (by rw [hgl]; exact Nat.le_refl _), List.filter_eq_self.mpr fun _ _ => rfl, List.map_id] at ha5
      have ey := rint_map ha5
      refine ⟨D, gapsM len ns, rfl, .of (by rw [hD, ey]), by rw [hgl]; exact List.length_pos_iff.mpr hne, fun m hm hle => ⟨_, _, rfl, rfl, kT rfl a ns rfl ha m H5 (fun b o e => s5 _ _ (s4 _ _ (s1 _ _ e))) hm hle⟩⟩
end
end T34

set_option Elab.async false
set_option linter.all false
set_option maxRecDepth 100000
set_option maxHeartbeats 4000000
/-! CombMath: comb as Pascal's numbers; numbers of sums of so many parts, none of them great. -/
namespace L2
open PySem
/-- Pascal's numbers -/
def ch : Nat → Nat → Nat
  | _, 0 => 1
  | 0, _ + 1 => 0
  | n + 1, k + 1 => ch n k + ch n (k + 1)
def fct : Nat → Nat
  | 0 => 1
  | n + 1 => (n + 1) * fct n
theorem fct_pos : ∀ n, 0 < fct n
  | 0 => Nat.one_pos
  | n + 1 => Nat.mul_pos (Nat.succ_pos n) (fct_pos n)
theorem ch_zero (n : Nat) : ch n 0 = 1 := by cases n <;> rfl
theorem ch_self : ∀ n, ch n n = 1 ∧ ∀ k, n < k → ch n k = 0
  | 0 => ⟨rfl, fun k h => by cases k with
    | zero => omega
    | succ k => rfl⟩
  | n + 1 => by
    obtain ⟨h1, h2⟩ := ch_self n
    refine ⟨by rw [ch, h1, h2 _ (Nat.lt_succ_self n)], fun k h => ?_⟩
    cases k with
    | zero => omega
    | succ k => rw [ch, h2 k (by omega), h2 (k + 1) (by omega)]
theorem fp_front (n : Nat) : ∀ k : Nat, Builtin.Math.fallingProduct ((n + 1 : Nat) : Int) (k + 1) = ((n + 1 : Nat) : Int) * Builtin.Math.fallingProduct (n : Int) k
  | 0 => by rw [PySem.W.mc_fp_one, PySem.W.mc_fp_zero, Int.mul_one]
  | k + 1 => by
    rw [PySem.W.mc_fp_succ, fp_front n k, PySem.W.mc_fp_succ (n : Int) k, Int.mul_assoc]
    congr 2
    omega
theorem ch_fp : ∀ n k : Nat, Builtin.Math.fallingProduct (n : Int) k = ((ch n k * fct k : Nat) : Int)
  | n, 0 => by rw [PySem.W.mc_fp_zero, ch_zero]; rfl
  | 0, k + 1 => by
    rw [PySem.W.mc_fp_succ, ch_fp 0 k]
    cases k with
    | zero => rw [ch_zero]; rfl
    | succ k =>
      show ((0 * _ : Nat) : Int) * _ = ((0 * _ : Nat) : Int)
      rw [Nat.zero_mul, Nat.zero_mul]
      exact Int.zero_mul _
  | n + 1, k + 1 => by
    have h1 := ch_fp n k
    have h2 := ch_fp n (k + 1)
    rw [PySem.W.mc_fp_succ, h1] at h2
    rw [fp_front, h1]
    have e : ((ch (n + 1) (k + 1) * fct (k + 1) : Nat) : Int) = ((ch n k * fct k : Nat) : Int) * ((k + 1 : Nat) : Int) + ((ch n (k + 1) * fct (k + 1) : Nat) : Int) := by
      rw [← Int.natCast_mul, ← Int.natCast_add]
      congr 1
      rw [ch, Nat.add_mul, fct, Nat.mul_comm (k + 1) (fct k), ← Nat.mul_assoc (ch n k)]
    rw [e, ← h2, ← Int.mul_add, Int.mul_comm]
    congr 1
    omega
theorem ch_fct {n : Nat} : ∀ {k : Nat}, k ≤ n → ch n k * fct k * fct (n - k) = fct n := by
  intro k h
  have g : ∀ k, k ≤ n → Builtin.Math.fallingProduct (n : Int) k * ((fct (n - k) : Nat) : Int) = ((fct n : Nat) : Int) := by
    intro k
    induction k with
    | zero => intro _; rw [PySem.W.mc_fp_zero, Int.one_mul]; rfl
    | succ k ih =>
      intro hk
      rw [PySem.W.mc_fp_succ, ← ih (by omega), Int.mul_assoc]
      congr 1
      have e : n - k = (n - (k + 1)) + 1 := by omega
      rw [e, fct, Int.natCast_mul]
      congr 1
      omega
  have := g k h
  rw [ch_fp, ← Int.natCast_mul] at this
  exact Int.ofNat.inj this
theorem ch_symm {n k : Nat} (h : k ≤ n) : ch n (n - k) = ch n k := by
  have h1 := ch_fct h
  have h2 := ch_fct (show n - k ≤ n by omega)
  rw [show n - (n - k) = k by omega] at h2
  have e : ch n (n - k) * (fct (n - k) * fct k) = ch n k * (fct (n - k) * fct k) := by
    rw [← Nat.mul_assoc, h2, ← h1, Nat.mul_comm (fct (n - k)), Nat.mul_assoc]
  exact Nat.eq_of_mul_eq_mul_right (Nat.mul_pos (fct_pos _) (fct_pos _)) e
theorem comb_ch {n k : Nat} (h : k ≤ n) : PySem.W.mcComb (n : Int) (k : Int) = ((ch n k : Nat) : Int) := by
  have gen : ∀ m : Nat, m ≤ n → Builtin.Math.fallingProduct (n : Int) m / Builtin.Math.fallingProduct (m : Int) m = ((ch n m : Nat) : Int) := fun m hm => by
    rw [ch_fp, ch_fp, (ch_self m).1, Nat.one_mul, Int.natCast_mul]
    exact Int.mul_ediv_cancel _ (by have := fct_pos m; omega)
  by_cases hk : k ≤ n - k
  · rw [PySem.W.mcComb_at (m := (k : Int)) (by omega) (by omega) (by omega), Int.toNat_natCast, gen k h]
  · rw [PySem.W.mcComb_at (m := ((n - k : Nat) : Int)) (by omega) (by omega) (by omega), Int.toNat_natCast, gen (n - k) (by omega), ch_symm h]
/-! sums of so many parts, each at least 1 and at most m -/
def sumN (f : Nat → Int) : Nat → Int
  | 0 => 0
  | k + 1 => sumN f k + f k
def cmp (m : Nat) : Nat → Nat → Int
  | 0, k => if k = 0 then 1 else 0
  | t + 1, k => sumN (cmp m t) k - sumN (cmp m t) (k - m)
theorem sumN_zero {f : Nat → Int} {b : Nat} (h : ∀ i, b ≤ i → f i = 0) : ∀ n, sumN f (b + n) = sumN f b
  | 0 => rfl
  | n + 1 => by
    show sumN f (b + n) + f (b + n) = _
    rw [sumN_zero h n, h _ (by omega), Int.add_zero]
theorem cmp_zero (m : Nat) : ∀ t k, t * m < k → cmp m t k = 0
  | 0, k, h => if_neg (by omega)
  | t + 1, k, h => by
    have e : (t + 1) * m = t * m + m := Nat.succ_mul t m
    show sumN _ k - sumN _ (k - m) = 0
    have z := fun n => sumN_zero (f := cmp m t) (b := t * m + 1) (fun i hi => cmp_zero m t i (by omega)) n
    have h1 := z (k - (t * m + 1))
    have h2 := z (k - m - (t * m + 1))
    rw [show t * m + 1 + (k - (t * m + 1)) = k by omega] at h1
    rw [show t * m + 1 + (k - m - (t * m + 1)) = k - m by omega] at h2
    rw [h1, h2, Int.sub_self]
theorem cmp_ch (m : Nat) : ∀ t d, d < m → cmp m (t + 1) ((t + 1) * m - d) = ((ch (d + t) t : Nat) : Int)
  | 0, d, h => by
    have one : ∀ n, sumN (cmp m 0) (n + 1) = 1 := fun n => by
      induction n with
      | zero => rfl
      | succ n ih =>
        show sumN (cmp m 0) (n + 1) + cmp m 0 (n + 1) = 1
        rw [ih]
        rfl
    show sumN _ ((0 + 1) * m - d) - sumN _ ((0 + 1) * m - d - m) = _
    rw [show (0 + 1) * m - d = (m - d - 1) + 1 by omega, one, show m - d - 1 + 1 - m = 0 by omega, ch_zero]
    rfl
  | t + 1, d, h => by
    have e : (t + 1 + 1) * m = (t + 1) * m + m := Nat.succ_mul (t + 1) m
    have e0 : (t + 1) * m = t * m + m := Nat.succ_mul t m
    have acc : ∀ d, d < m → sumN (cmp m (t + 1)) ((t + 1) * m + 1) - sumN (cmp m (t + 1)) ((t + 1) * m - d) = ((ch (d + t + 1) (t + 1) : Nat) : Int) := by
      intro d
      induction d with
      | zero =>
        intro h
        have := cmp_ch m t 0 h
        rw [Nat.sub_zero, Nat.zero_add, (ch_self t).1] at this
        show sumN _ ((t + 1) * m) + cmp m (t + 1) ((t + 1) * m) - sumN _ ((t + 1) * m - 0) = _
        rw [Nat.sub_zero, this, Nat.zero_add, (ch_self (t + 1)).1]
        omega
      | succ d ih =>
        intro h
        have h1 := ih (by omega)
        have h2 := cmp_ch m t (d + 1) h
        have e3 : (t + 1) * m - d = ((t + 1) * m - (d + 1)) + 1 := by omega
        rw [e3] at h1
        have e4 : sumN (cmp m (t + 1)) (((t + 1) * m - (d + 1)) + 1) = sumN (cmp m (t + 1)) ((t + 1) * m - (d + 1)) + cmp m (t + 1) ((t + 1) * m - (d + 1)) := rfl
        rw [e4, h2] at h1
        have e5 : ch (d + 1 + t + 1) (t + 1) = ch (d + 1 + t) t + ch (d + 1 + t) (t + 1) := rfl
        have e6 : ch (d + t + 1) (t + 1) = ch (d + 1 + t) (t + 1) := by rw [show d + t + 1 = d + 1 + t by omega]
        rw [e6] at h1
        omega
    have h1 := acc d h
    have z := sumN_zero (f := cmp m (t + 1)) (b := (t + 1) * m + 1) (fun i hi => cmp_zero m (t + 1) i (by omega)) ((t + 1 + 1) * m - d - ((t + 1) * m + 1))
    rw [show (t + 1) * m + 1 + ((t + 1 + 1) * m - d - ((t + 1) * m + 1)) = (t + 1 + 1) * m - d by omega] at z
    show sumN _ ((t + 1 + 1) * m - d) - sumN _ ((t + 1 + 1) * m - d - m) = _
    rw [z, show (t + 1 + 1) * m - d - m = (t + 1) * m - d by omega, h1]
    rw [show d + (t + 1) = d + t + 1 by omega]
end L2

set_option Elab.async false
set_option linter.all false
set_option maxRecDepth 100000
set_option maxHeartbeats 4000000
namespace T34
open PySem L2 EK
theorem ix_listK {X : Cx} {K : PySem.W.Frag} (h : X.K = K := by rfl) : IxR X (rIxL K) := by subst h; exact ix_list
theorem ix_tupK {X : Cx} {K : PySem.W.Frag} (h : X.K = K := by rfl) : IxR X (rIxT K) := by subst h; exact ix_tup
abbrev NRW : List Str := ["_law_total", "_law_many", "_law_most", "_law_row", "_law_turn", "_law_sums", "_law_one", "_law_k"]
def rowI (m t total : Nat) : List Int := (List.range (total + 1)).map (cmp m t)
def sumI (f : Nat → Int) (n : Nat) : List Int := (List.range (n + 1)).map (sumN f)
theorem rowI_zero (m total : Nat) : (1 : Int) :: List.replicate total 0 = rowI m 0 total := by
  unfold rowI
  rw [List.range_succ_eq_map, List.map_cons, List.map_map]
  congr 1
  refine List.ext_getElem (by rw [List.length_replicate, List.length_map, List.length_range]) fun i h1 h2 => ?_
  rw [List.getElem_replicate, List.getElem_map]
  rfl
theorem sumI_snoc (f : Nat → Int) (n : Nat) : (sumI f n).map V.int = ((List.range n).map (sumN f)).map V.int ++ [V.int (sumN f n)] := by
  unfold sumI
  rw [List.range_succ, List.map_append, List.map_append]
  rfl
theorem sumI_at (f : Nat → Int) {n k : Nat} (h : k ≤ n) : atI ((sumI f n).map V.int) ((k : Nat) : Int) = some (V.int (sumN f k)) := by
  refine atI_nat ?_
  rw [sumI, List.getElem?_map, List.getElem?_map, List.getElem?_range (by omega)]
  rfl
theorem rowI_get {m t total j : Nat} {x : V} (h : ((rowI m t total).map V.int)[j]? = some x) : j ≤ total ∧ x = V.int (cmp m t j) := by
  rw [rowI, List.getElem?_map, List.getElem?_map] at h
  by_cases hj : j < total + 1
  · rw [List.getElem?_range hj] at h
    cases h
    exact ⟨by omega, rfl⟩
  · rw [List.getElem?_eq_none (by rw [List.length_range]; omega)] at h
    cases h
def spRows : Sp := fun vs H Q _ => ∃ total many m : Nat, vs = [.int total, .int many, .int m] ∧ total ≤ 400 ∧ many ≤ 400 ∧ m ≤ 400 ∧ ∀ H', Same H H' → Q (.int (cmp m many total)) H'
section
variable {P : Program} {w : World} {K : PySem.W.Frag} {mg : Str → Option Value} {base : Heap}
theorem scRows : FnScope NRW ["_law_total", "_law_many", "_law_most"] (defScope sRows) := ⟨rfl, rfl, rfl, by decide +kernel, rfl, by decide +kernel, by decide +kernel⟩
theorem ok_rows {f : Addr} {fd : FuncData} (F : Fun K "_law_rows" "_law_rows" sRows f fd) (T : TxtC K mg) : FnOk P w K mg base CX0 1 f fd ["_law_total", "_law_many", "_law_most"] spRows := by
  refine F.ok scRows (fun vs H Q E h => ?_) (fun cdv A outer s H vs Q E hr h => ?_)
  · obtain ⟨total, many, m, rfl, _⟩ := h
    rfl
  · obtain ⟨total, many, m, rfl, h1, h2, h3, k⟩ := h
    have nd := scRows.nd
    have hz : sizeLine = 2 ^ 24 := sizeLine_eq
    refine ⟨_, (pss_cons (ps_set (i := 3) nd rfl (Or.inl rfl) (pe_op op_cat (pe_lst (pa_cons pe_int pa_nil)) (pe_op op_rep (pe_lst (pa_cons pe_int pa_nil)) (pv 0))))
      (pss_cons (ps_for PassesOwn.never rfl (pi_range1 (by rfl) T.range (pa_cons (pv 1) pa_nil)) (pg_name (i := 4) nd rfl (Or.inl rfl)) (pss_cons (ps_set (i := 5) nd rfl (Or.inr rfl) (pe_lst (pa_cons pe_int pa_nil)))
      (pss_cons (ps_for PassesOwn.never rfl (pi_list (pv 3)) (pg_name (i := 6) nd rfl (Or.inl rfl)) (pss_one (ps_expr (pe_bm PySem.F.plainAttrs_list PySem.F.slot_list_append PySem.F.type_list_append mt_append (pv 5) (pa_cons (pe_op op_add (pe_ix ix_list (pv 5) (pe_un un_neg pe_int) (fun _ _ => rfl)) (pv 6)) pa_nil)))))
      (pss_one (ps_setLc (i := 3) (own := [("_law_k", 7)]) (g := gName 7) (tt := tYes) rfl nd rfl rfl (sw_true rfl rfl rfl (by decide +kernel)) (pi_range1 (by rfl) T.range (pa_cons (pe_op op_add (pv 0) pe_int) pa_nil)) (blkOk_by (N := NRW) (sc := defScope sRows) (by decide +kernel)) (fun _ _ _ _ _ => (pg_name (i := 7) nd rfl (Or.inl rfl))) (fun _ _ _ _ _ => pts_nil) (fun _ _ _ _ _ => (pe_op op_sub (pe_ix (ix_listK (K := K)) (pv 5) (pv 7) (fun _ _ => rfl)) (pe_ix (ix_listK (K := K)) (pv 5) (pe_callB (call_max2 rfl) (by rfl) T.max (by decide +kernel) (pa_cons pe_int (pa_cons (pe_op op_sub (pv 7) (pv 2)) pa_nil))) (fun _ _ => rfl)))))))))
      (pss_one (ps_ret (pe_ix ix_list (pv 3) (pv 0) (fun _ _ => rfl)))))), ?_⟩
    refine ⟨(by show 1 ≤ sizeLine; decide), fun p0 z0 => ?_⟩
    obtain ⟨H0, e0, S0, A0⟩ := alloc (o := .lst [.int 1]) z0
    rw [e0]
    refine ⟨(by show 1 ≤ sizeLine; decide), fun p1 z1 => ?_⟩
    obtain ⟨H1, e1, S1, A1⟩ := alloc (o := .lst [.int 0]) z1
    rw [e1]
    refine ⟨_, rfl, p1, _, _, rfl, rfl, A1, by omega, by omega, by show 1 * _ ≤ _; omega, fun p2 z2 => ?_⟩
    have er : (List.replicate ((total : Int)).toNat [V.int 0]).flatten = (List.replicate total (0 : Int)).map V.int := by
      rw [List.flatten_replicate_singleton, List.map_replicate, Int.toNat_natCast]
    rw [er]
    obtain ⟨H2, e2, S2, A2⟩ := alloc (o := .lst ((List.replicate total (0 : Int)).map V.int)) z2
    rw [e2]
    refine ⟨p0, p2, _, _, rfl, rfl, S2 _ _ (S1 _ _ A0), A2, ?_, fun p3 z3 => ?_⟩
    · rw [List.length_map, List.length_replicate]
      show 1 + _ ≤ _
      omega
    have er2 : [V.int 1] ++ (List.replicate total (0 : Int)).map V.int = (rowI m 0 total).map V.int := by rw [← rowI_zero]; rfl
    rw [er2]
    obtain ⟨H3, e3, S3, A3⟩ := alloc (o := .lst ((rowI m 0 total).map V.int)) z3
    rw [e3]
    have s03 : Same H H3 := fun b o e => S3 _ _ (S2 _ _ (S1 _ _ (S0 _ _ e)))
    refine ⟨_, rfl, _, rfl, by omega, by omega, ?_⟩
    rw [Int.toNat_natCast]
    refine for_range (lo := 0) (n := many) (fun i σ H' => ∃ (p : Addr) (v4 v5 v6 : Option V), σ = [some (.int total), some (.int many), some (.int m), some (.ref p), v4, v5, v6, none] ∧ Same H H' ∧ H' p = some (.lst ((rowI m i total).map V.int))) ⟨p3, none, none, none, rfl, s03, A3⟩ ?_ ?_
    · rintro i σ H4 hi ⟨p, v4, v5, v6, rfl, s4, A4⟩
      refine ⟨(by show 1 ≤ sizeLine; decide), fun p5 z5 => ?_⟩
      obtain ⟨H5, e5, S5, A5⟩ := alloc (o := .lst [.int 0]) z5
      rw [e5]
      refine ⟨_, rfl, p, rfl, ⟨_, .of (S5 _ _ A4)⟩, for_list (K := K) (a := p) (xs := (rowI m i total).map V.int) (fun j σ H' => ∃ v6 : Option V, σ = [some (.int total), some (.int many), some (.int m), some (.ref p), some (.int ((0 : Int) + (i : Nat))), some (.ref p5), v6, none] ∧ Same H4 H' ∧ H' p5 = some (.lst ((sumI (cmp m i) j).map V.int))) ⟨v6, rfl, S5, A5⟩ (fun j σ H' _ ⟨_, _, s, _⟩ => .of (s _ _ A4)) ?_ ?_⟩
      · rintro j x σ H6 hj ⟨v6, rfl, s6, A6⟩
        obtain ⟨hjt, rfl⟩ := rowI_get hj
        have A6' := A6
        rw [sumI_snoc] at A6'
        refine ⟨_, rfl, .inl ⟨rfl, _, .of A6⟩, _, rfl, _, rfl, p5, _, _, _, rfl, rfl, .of A6', atI_last _ _, _, rfl, _, _, rfl, rfl, ?_⟩
        refine ⟨p5, _, _, rfl, rfl, A6, ?_, ?_⟩
        · rw [sumI, List.length_map, List.length_map, List.length_range]
          omega
        · refine ⟨_, rfl, fun b o e => ?_, ?_⟩
          · rw [upd_ne (ne_of_none e z5)]
            exact s6 _ _ e
          · rw [upd_same, sumI_snoc _ (j + 1)]
            rfl
      · rintro σ H6 ⟨v6, rfl, s6, A6⟩
        have hl : ((rowI m i total).map V.int).length = total + 1 := by rw [rowI, List.length_map, List.length_map, List.length_range]
        rw [hl] at A6
        refine ⟨_, rfl, _, _, rfl, rfl, _, rfl, by omega, by omega, fun D nD => ?_⟩
        rw [show ((total : Int) + 1).toNat = total + 1 by omega]
        refine lcM_range (R' := RInt) (n := total + 1) (fun _ => true) (cmp m (i + 1)) nD rint_keep (by omega) ?_ ?_
        · intro kk H7 C C0 hkk s7 c1 _
          have e0 : (0 : Int) + (kk : Nat) = ((kk : Nat) : Int) := Int.zero_add _
          have hmx : (if (0 : Int) + (kk : Nat) - (m : Nat) > 0 then (0 : Int) + (kk : Nat) - (m : Nat) else 0) = ((kk - m : Nat) : Int) := by split <;> omega
          refine ⟨rfl, _, rfl, _, rfl, p5, _, _, _, rfl, rfl, .of (s7 _ _ A6), (by rw [e0]; exact sumI_at _ (by omega)), _, rfl, _, rfl, _, rfl, _, _, rfl, rfl, _, _, rfl, p5, _, _, _, rfl, rfl, .of (s7 _ _ A6), (by rw [hmx]; exact sumI_at _ (by omega)), _, _, rfl, rfl, ?_⟩
          exact c1 rfl _ _ (fun _ _ e => e) rfl
        · intro ws H7 s7 hD hws
          rw [List.filter_eq_self.mpr fun _ _ => rfl] at hws
          have ew := rint_map hws
          exact ⟨D, _, _, _, rfl, fun b o e => s7 _ _ (s6 _ _ (s4 _ _ e)), by rw [hD, ew]; rfl⟩
    · rintro σ H4 ⟨p, v4, v5, v6, rfl, s4, A4⟩
      refine ⟨_, rfl, _, rfl, p, _, _, _, rfl, rfl, .of A4, (atI_nat (by rw [rowI, List.getElem?_map, List.getElem?_map, List.getElem?_range (by omega)]; rfl)), k H4 s4⟩
end
end T34

set_option Elab.async false
set_option linter.all false
set_option maxRecDepth 100000
set_option maxHeartbeats 4000000
namespace T34
open PySem L2 EK
/-- the k-th place of the first sampling: steps of c, the first one r + 1 -/
def fsN (r c : Nat) : Nat → Nat
  | 0 => 0
  | k + 1 => r + 1 + k * c
theorem div_nat (l s : Nat) : (l : Int) / ((s : Int) + 1) = ((l / (s + 1) : Nat) : Int) := by
  rw [Int.natCast_ediv]
  rfl
theorem least_nat (l s : Nat) : leastM l s = ((l / (s + 1) + 1 : Nat) : Int) := by
  unfold leastM
  rw [div_nat]
  rfl
theorem lt_eq (l s : Nat) : l = l / (s + 1) * (s + 1) + l % (s + 1) := by
  have := Nat.div_add_mod l (s + 1)
  rw [Nat.mul_comm] at this
  exact this.symm
theorem sec_nat (l s : Nat) : (l : Int) + 1 - (leastM l s - 1) * ((s : Int) + 1) = ((l % (s + 1) + 1 : Nat) : Int) := by
  have h := lt_eq l s
  have h2 : (l : Int) = ((l / (s + 1) : Nat) : Int) * ((s : Int) + 1) + ((l % (s + 1) : Nat) : Int) := by
    have := congrArg (fun n : Nat => (n : Int)) h
    simpa [Int.natCast_add, Int.natCast_mul] using this
  rw [least_nat]
  have h3 : (((l / (s + 1) + 1 : Nat) : Int) - 1) = ((l / (s + 1) : Nat) : Int) := by omega
  rw [h3]
  generalize ((l / (s + 1) : Nat) : Int) * ((s : Int) + 1) = q at h2
  omega
theorem size_nat (l s : Nat) : (Builtin.Range.rangeSize ((l % (s + 1) + 1 : Nat) : Int) ((l : Int) + 1) ((s : Int) + 1)).toNat = l / (s + 1) := by
  unfold Builtin.Range.rangeSize
  rw [if_pos (show ((s : Int) + 1) > 0 by omega)]
  have h := lt_eq l s
  by_cases h0 : l / (s + 1) = 0
  · rw [h0, Nat.zero_mul, Nat.zero_add] at h
    rw [if_neg (by omega), h0]
    rfl
  · obtain ⟨t, ht⟩ : ∃ t, l / (s + 1) = t + 1 := Nat.exists_eq_succ_of_ne_zero h0
    have e : (t + 1) * (s + 1) = t * (s + 1) + (s + 1) := Nat.succ_mul _ _
    rw [ht, e] at h
    rw [if_pos (by omega), ht]
    have h2 : (l : Int) + 1 - ((l % (s + 1) + 1 : Nat) : Int) - 1 = (s : Int) + ((t : Nat) : Int) * ((s : Int) + 1) := by
      have := congrArg (fun n : Nat => (n : Int)) h
      have e2 : (((t * (s + 1) + (s + 1) + l % (s + 1) : Nat)) : Int) = ((t : Nat) : Int) * ((s : Int) + 1) + ((s : Int) + 1) + ((l % (s + 1) : Nat) : Int) := by
        rw [Int.natCast_add, Int.natCast_add, Int.natCast_mul]
        rfl
      have this : (l : Int) = (((t * (s + 1) + (s + 1) + l % (s + 1) : Nat)) : Int) := this
      rw [e2] at this
      generalize ((t : Nat) : Int) * ((s : Int) + 1) = q at this
      omega
    rw [h2, Int.add_mul_ediv_right (s : Int) ((t : Nat) : Int) (show (s : Int) + 1 ≠ 0 by omega), Int.ediv_eq_zero_of_lt (show 0 ≤ (s : Int) by omega) (show (s : Int) < (s : Int) + 1 by omega)]
    omega
theorem first_nat (l s : Nat) : firstM l s = (List.range (l / (s + 1) + 1)).map fun k => ((fsN (l % (s + 1)) (s + 1) k : Nat) : Int) := by
  unfold firstM
  rw [sec_nat, size_nat, List.range_succ_eq_map, List.map_cons, List.map_map]
  congr 1
theorem first_len (l s : Nat) : (firstM l s).length = l / (s + 1) + 1 := by rw [first_nat, List.length_map, List.length_range]
theorem first_get (l s : Nat) {k : Nat} (h : k ≤ l / (s + 1)) : (firstM l s)[k]? = some ((fsN (l % (s + 1)) (s + 1) k : Nat) : Int) := by
  rw [first_nat, List.getElem?_map, List.getElem?_range (by omega)]
  rfl
theorem fs_lt (r c : Nat) (hc : 0 < c) : ∀ {i j : Nat}, i < j → fsN r c i < fsN r c j
  | 0, j + 1, _ => by show 0 < r + 1 + j * c; omega
  | i + 1, j + 1, h => by
    show r + 1 + i * c < r + 1 + j * c
    have := Nat.mul_lt_mul_of_pos_right (show i < j by omega) hc
    omega
theorem fs_last (l s : Nat) : fsN (l % (s + 1)) (s + 1) (l / (s + 1)) ≤ l := by
  have h := lt_eq l s
  have hr := Nat.mod_lt l (show 0 < s + 1 by omega)
  cases h0 : l / (s + 1) with
  | zero => exact Nat.zero_le _
  | succ t =>
    show l % (s + 1) + 1 + t * (s + 1) ≤ l
    have e : (t + 1) * (s + 1) = t * (s + 1) + (s + 1) := Nat.succ_mul _ _
    rw [h0, e] at h
    omega
structure SmpOk (len : Int) (ns : List Int) : Prop where
  some_ : ns ≠ []
  inc : ns.Pairwise (· < ·)
  bd : ∀ s ∈ ns, 0 ≤ s ∧ s ≤ len
theorem first_ok (l s : Nat) : SmpOk (l : Nat) (firstM l s) := by
  refine ⟨List.cons_ne_nil _ _, ?_, fun x hx => ?_⟩
  · rw [first_nat, List.pairwise_map]
    exact List.pairwise_lt_range.imp fun h => by
      have := fs_lt (l % (s + 1)) (s + 1) (by omega) h
      omega
  · rw [first_nat] at hx
    obtain ⟨k, hk, rfl⟩ := List.mem_map.mp hx
    have hk := List.mem_range.mp hk
    have h1 := fs_last l s
    have h2 : fsN (l % (s + 1)) (s + 1) k ≤ fsN (l % (s + 1)) (s + 1) (l / (s + 1)) := by
      rcases Nat.lt_or_ge k (l / (s + 1)) with h | h
      · exact Nat.le_of_lt (fs_lt _ _ (by omega) h)
      · rw [show k = l / (s + 1) by omega]
        exact Nat.le_refl _
    omega
/-- each gap is at most the steps and one -/
theorem first_gaps (l s : Nat) : ∀ g ∈ gapsM (l : Nat) (firstM l s), g ≤ (s : Int) + 1 := by
  intro g hg
  unfold gapsM at hg
  obtain ⟨i, hi, e⟩ := List.mem_iff_getElem.mp hg
  have hl := first_len l s
  have hh : (firstM l s).headD 0 = 0 := rfl
  rw [List.length_zipWith, List.length_append, List.length_tail, List.length_singleton, hl] at hi
  have hr := Nat.mod_lt l (show 0 < s + 1 by omega)
  have hle := lt_eq l s
  have hi2 : i ≤ l / (s + 1) := by omega
  have h1 := first_get l s hi2
  have e1 : (List.zipWith (fun a b => b - a) (firstM l s) ((firstM l s).tail ++ [(firstM l s).headD 0 + (l : Nat) + 1]))[i]? = some g := by
    rw [← e]
    exact List.getElem?_eq_getElem _
  rw [List.getElem?_zipWith, h1, hh] at e1
  by_cases hlast : i < l / (s + 1)
  · have h2 : ((firstM l s).tail ++ [(0 : Int) + (l : Nat) + 1])[i]? = some ((fsN (l % (s + 1)) (s + 1) (i + 1) : Nat) : Int) := by
      rw [List.getElem?_append_left (by rw [List.length_tail, hl]; omega), List.getElem?_tail]
      exact first_get l s (by omega)
    rw [h2] at e1
    injection e1 with e1
    have : fsN (l % (s + 1)) (s + 1) (i + 1) ≤ fsN (l % (s + 1)) (s + 1) i + (s + 1) := by
      cases i with
      | zero => show l % (s + 1) + 1 + 0 * (s + 1) ≤ 0 + (s + 1); omega
      | succ i =>
        show l % (s + 1) + 1 + (i + 1) * (s + 1) ≤ l % (s + 1) + 1 + i * (s + 1) + (s + 1)
        rw [Nat.succ_mul]
        omega
    omega
  · have ei : i = l / (s + 1) := by omega
    have h2 : ((firstM l s).tail ++ [(0 : Int) + (l : Nat) + 1])[i]? = some ((0 : Int) + (l : Nat) + 1) := by
      rw [List.getElem?_append_right (by rw [List.length_tail, hl]; omega), List.length_tail, hl, show i - (l / (s + 1) + 1 - 1) = 0 by omega]
      rfl
    rw [h2] at e1
    injection e1 with e1
    have : l + 1 ≤ fsN (l % (s + 1)) (s + 1) i + (s + 1) := by
      subst ei
      cases h0 : l / (s + 1) with
      | zero => rw [h0] at hle; show l + 1 ≤ 0 + (s + 1); omega
      | succ t =>
        have e : (t + 1) * (s + 1) = t * (s + 1) + (s + 1) := Nat.succ_mul _ _
        rw [h0, e] at hle
        show l + 1 ≤ l % (s + 1) + 1 + t * (s + 1) + (s + 1)
        omega
    omega
theorem sampB_of {len : Int} {ns : List Int} (h : SmpOk len ns) : sampB (ns.map V.int) len = true := by
  unfold sampB
  have h1 : (ns.map V.int).isEmpty = false := by
    cases ns with
    | nil => exact absurd rfl h.some_
    | cons => rfl
  have h2 : ((ns.map V.int).all fun x => numBB x 0 len) = true := by
    rw [List.all_map, List.all_eq_true]
    intro n hn
    have := h.bd n hn
    show (decide ((0 : Int) ≤ n) && decide (n ≤ len)) = true
    rw [decide_eq_true this.1, decide_eq_true this.2]
    rfl
  have h3 : (ns.map V.int).map valI = ns := by
    rw [List.map_map]
    exact List.map_id' ns
  rw [h1, h2, h3, (incB_iff ns).mpr h.inc]
  rfl
theorem isS_of {H : Hp} {len : Int} {a : Addr} {ns : List Int} (h : SmpOk len ns) (ha : H a = some (.tup (ns.map V.int))) (hl : ns.length ≤ 400) : IsS H len (.ref a) true := by
  rw [← sampB_of h]
  exact .tup ha (fun y hy => by
    obtain ⟨n, _, rfl⟩ := List.mem_map.mp hy
    exact .int n) (by rw [List.length_map]; exact hl)
theorem same_ints {as bs : List Int} (h : as.map V.int = bs.map V.int) : as = bs := by
  have := congrArg (List.map valI) h
  rw [List.map_map, List.map_map] at this
  simpa [Function.comp_def, valI] using this
theorem most_ok {CN CS a : Addr} {H : Hp} {len : Nat} {ns : List Int} {Q : VK} {E : XK} (h : SmpOk (len : Nat) ns) (hnl : ns.length ≤ 400) (ha : H a = some (.tup (ns.map V.int))) (hl : len ≤ 300)
    (k : ∀ m H1, Same H H1 → m ∈ gapsM (len : Nat) ns → (∀ z ∈ gapsM (len : Nat) ns, z ≤ m) → Q (.int (m - 1)) H1) : spMost CN CS [.int (len : Nat), .ref a] H Q E := by
  refine ⟨_, _, rfl, .int _, fun e => absurd e ?_, fun len' el h0 h1 => ⟨true, ?_, fun e => (by cases e), fun _ a' ns' ea ha' m H1 s1 hm hmx => ?_⟩⟩
  · show ¬ (decide ((0 : Int) ≤ (len : Nat)) && decide (((len : Nat) : Int) ≤ 300)) = false
    rw [decide_eq_true (by omega), decide_eq_true (by omega)]
    decide
  · injection el with el
    rw [← el]
    exact isS_of h ha hnl
  · injection el with el
    subst el
    injection ea with ea
    subst ea
    rw [ha] at ha'
    injection ha' with ha'
    injection ha' with ha'
    have := same_ints ha'
    subst this
    exact k m H1 s1 hm hmx
/-- what the table of rows tells -/
theorem num_rows (l s : Nat) : numM l s = ((l : Int) + 1) * cmp (min (s + 1) (l + 1)) (l / (s + 1) + 1) (l + 1) / ((l / (s + 1) + 1 : Nat) : Int) := by
  unfold numM
  rw [least_nat]
  have hle := lt_eq l s
  have hr := Nat.mod_lt l (show 0 < s + 1 by omega)
  have e : (l / (s + 1) + 1) * (s + 1) = l / (s + 1) * (s + 1) + (s + 1) := Nat.succ_mul _ _
  have hk : ((l / (s + 1) + 1 : Nat) : Int) * ((s : Int) + 1) - ((l : Int) + 1) + ((l / (s + 1) + 1 : Nat) : Int) - 1 = ((s - l % (s + 1) + l / (s + 1) : Nat) : Int) := by
    have e3 : ((l / (s + 1) + 1 : Nat) : Int) * ((s : Int) + 1) = (((l / (s + 1) + 1) * (s + 1) : Nat) : Int) := by rw [Int.natCast_mul]; rfl
    rw [e3, e]
    generalize l / (s + 1) * (s + 1) = q at hle
    omega
  have hk2 : ((l / (s + 1) + 1 : Nat) : Int) - 1 = ((l / (s + 1) : Nat) : Int) := by omega
  have hc : PySem.W.mcComb (((l / (s + 1) + 1 : Nat) : Int) * ((s : Int) + 1) - ((l : Int) + 1) + ((l / (s + 1) + 1 : Nat) : Int) - 1) (((l / (s + 1) + 1 : Nat) : Int) - 1) = cmp (min (s + 1) (l + 1)) (l / (s + 1) + 1) (l + 1) := by
    rw [hk, hk2, comb_ch (by omega)]
    by_cases hs : s + 1 ≤ l + 1
    · rw [Nat.min_eq_left hs]
      have := cmp_ch (s + 1) (l / (s + 1)) (s - l % (s + 1)) (by omega)
      rw [show (l / (s + 1) + 1) * (s + 1) - (s - l % (s + 1)) = l + 1 by omega] at this
      exact this.symm
    · have h0 : l / (s + 1) = 0 := Nat.div_eq_of_lt (by omega)
      rw [Nat.min_eq_right (by omega), h0, ch_zero]
      have := cmp_ch (l + 1) 0 0 (by omega)
      rw [ch_zero, show (0 + 1) * (l + 1) - 0 = l + 1 by omega] at this
      exact this.symm
  rw [hc]
end T34

set_option Elab.async false
set_option linter.all false
set_option maxRecDepth 100000
set_option maxHeartbeats 4000000
namespace T34
open PySem L2 EK
theorem cut_take (ns : List Int) (j : Nat) (k : Int) (hk : k = (j : Int)) : cutV (ns.map V.int) none (some k) = (ns.take j).map V.int := by
  subst hk
  unfold cutV
  rw [HT.sIx_nat, HT.sIx_none, List.drop_zero, Nat.sub_zero, List.map_take, List.length_map]
  by_cases h : j ≤ ns.length
  · rw [Nat.min_eq_left h]
  · rw [Nat.min_eq_right (by omega), List.take_of_length_le (by rw [List.length_map]; omega), List.take_of_length_le (by rw [List.length_map]; omega)]
theorem atI_last2 {α : Type} (xs : List α) (u v : α) : atI (xs ++ [u] ++ [v]) (-2) = some u := by
  have hl : (xs ++ [u] ++ [v]).length = xs.length + 2 := by simp
  have e : ixN (xs ++ [u] ++ [v]).length (-2) = some xs.length := by
    unfold ixN
    rw [hl, if_neg (by decide), if_pos (by omega)]
    exact congrArg some (by omega)
  unfold atI
  rw [e]
  show (xs ++ [u] ++ [v])[xs.length]? = some u
  rw [List.append_assoc, List.getElem?_append_right (Nat.le_refl _), Nat.sub_self]
  rfl
abbrev NFR : List Str := ["_law_size", "_law_steps", "_law_samples", "_law_many", "_law_k", "_law_lower", "_law_farthest"]
def spFR : Sp := fun vs H Q _ => ∃ (l s : Nat) (a : Addr), vs = [.int l, .int s, .ref a] ∧ l ≤ 300 ∧ s < 2 ^ 200 ∧ H a = some (.tup ((firstM l s).map V.int)) ∧ ∀ H', Same H H' → Q (.bl true) H'
section
variable {P : Program} {w : World} {K : PySem.W.Frag} {mg : Str → Option Value} {base : Heap} {CN CS fM fP : Addr} {fdM fdP : FuncData}
theorem scPick : FnScope ["_law_urn_here", "_law_some"] ["_law_urn_here", "_law_some"] (defScope sPick) := ⟨rfl, rfl, rfl, by decide +kernel, rfl, by decide +kernel, by decide +kernel⟩
theorem scFR : FnScope NFR ["_law_size", "_law_steps", "_law_samples"] (defScope sFirstRight) := ⟨rfl, rfl, rfl, by decide +kernel, rfl, by decide +kernel, by decide +kernel⟩
def spPick : Sp := fun vs H Q _ => ∃ (a : Addr) (n : Int) (l : Addr) (xs : List V), vs = [.ref a, .ref l] ∧ UrnAt H a n ∧ n ≤ 1000000 ∧
  H l = some (.lst xs) ∧ l ≠ a ∧ 0 < xs.length ∧ xs.length ≤ 1000 ∧ ∀ (y : V) H', y ∈ xs → UrnAt H' a (n + 1) → KeepB a H H' → Q y H'
theorem ok_pick {f : Addr} {fd : FuncData} (F : Fun K "_law_pick" "_law_pick" sPick f fd) (T : TxtC K mg)
    (GP : FnOk P w K mg base CX0 1 fP fdP ["_law_urn_here", "_law_many"] spPull) (gP : mg "_law_pull" = some (.ref fP)) (kP : PySem.W.keepIn K (.ref fP) = true) (bP : Binds K fdP ["_law_urn_here", "_law_many"] []) :
    FnOk P w K mg base CX0 2 f fd ["_law_urn_here", "_law_some"] spPick := by
  refine F.ok scPick (fun vs H Q E h => ?_) (fun cdv A outer s H vs Q E hr h => ?_)
  · obtain ⟨a, n, l, xs, rfl, _⟩ := h
    rfl
  · obtain ⟨a, n, l, xs, rfl, hw, hn, hl, hla, h1, h2, k⟩ := h
    refine ⟨_, pss_one (ps_ret (pe_ix ix_list (pv 1) (pe_call GP hr rfl gP kP bP .nil pass0 (pa_cons (pv 0) (pa_cons (pe_callB call_len_seq (by rfl) T.len (by decide +kernel) (pa_cons (pv 1) pa_nil)) pa_nil))) (fun _ _ => rfl))), ?_⟩
    refine ⟨_, rfl, _, rfl, _, rfl, l, xs, rfl, .inl (.of hl), a, _, n, rfl, hw, hn, by omega, by omega, fun d H' hd hd2 hw' hk => ?_⟩
    obtain ⟨j, rfl⟩ : ∃ j : Nat, d = (j : Int) := ⟨d.toNat, by omega⟩
    have hj : j < xs.length := by omega
    refine ⟨l, xs, _, xs[j], rfl, rfl, .of (hk l _ hl hla), atI_nat (List.getElem?_eq_getElem hj), ?_⟩
    exact k _ _ (List.getElem_mem hj) hw' hk
theorem ok_firstRight {f : Addr} {fd : FuncData} (F : Fun K "_law_first_right" "_law_first_right" sFirstRight f fd) (T : TxtC K mg)
    (GM : FnOk P w K mg base (L2.CX P w) 5 fM fdM ["length", "samples"] (spMost CN CS)) (gM : mg "most_steps" = some (.ref fM)) (kM : PySem.W.keepIn K (.ref fM) = true) (bM : Binds K fdM ["length", "samples"] []) :
    FnOk P w K mg base CX0 6 f fd ["_law_size", "_law_steps", "_law_samples"] spFR := by
  refine F.ok scFR (fun vs H Q E h => ?_) (fun cdv A outer s H vs Q E hr h => ?_)
  · obtain ⟨l, s, a, rfl, _⟩ := h
    rfl
  · obtain ⟨l, t, a, rfl, h1, h2, ha, k⟩ := h
    have nd := scFR.nd
    have hz : sizeLine = 2 ^ 24 := sizeLine_eq
    have hu : (A.deeper (PyProof.Rows.envOfC "_law_first_right" (defScope sFirstRight) s.heap.objs.size f cdv)).units + 64 < cLine := hr.units
    have hr5 : Room 5 _ := hr
    refine ⟨_, (pss_cons (ps_if (PW.pt (pw_or (pt_cmpR op_ne (pe_ix ix_tup (pv 2) pe_int (fun _ _ => rfl)) pe_int (nomark _)) (pw_or (pt_cmpR op_gt (pe_call GM hr5 rfl gM kM bM .nil passL (pa_cons (pv 0) (pa_cons (pv 2) pa_nil))) (pv 1) (nomark _)) (pw_or1 (pt_cmpR (op_neD hu) (pe_callB (cr_sortedSetA rfl) (by rfl) T.sorted (by decide +kernel) (pa_cons (pe_callTy (cr_setI rfl) (by rfl) T.set (by decide +kernel) (pa_cons (pv 2) pa_nil)) pa_nil)) (pe_callTy call_list_of (by rfl) T.list (by decide +kernel) (pa_cons (pv 2) pa_nil)) (nomark _)))))) (pss_one (ps_ret pe_bl)) pss_nil)
      (pss_cons (ps_set (i := 3) nd rfl (Or.inl rfl) (pe_callB call_len_seq (by rfl) T.len (by decide +kernel) (pa_cons (pv 2) pa_nil)))
      (pss_cons (ps_for PassesOwn.never rfl (pi_range2 (by rfl) T.range (pa_cons pe_int (pa_cons (pv 3) pa_nil))) (pg_name (i := 4) nd rfl (Or.inl rfl)) (pss_cons (ps_set (i := 5) nd rfl (Or.inl rfl) (pe_op op_catA (pe_slice sl_tupA (pv 2) po_none (po_some (pv 4))) (pe_tup (pa_cons (pe_op op_sub (pe_ix ix_tup (pv 2) (pv 4) (fun _ _ => rfl)) pe_int) pa_nil))))
      (pss_cons (ps_set (i := 6) nd rfl (Or.inl rfl) (pe_op op_add (pe_ix ix_tup (pv 5) (pe_un un_neg pe_int) (fun _ _ => rfl)) (pe_op op_mul (pe_op op_sub (pv 3) (pv 4)) (pe_op op_add (pv 1) pe_int))))
      (pss_one (ps_if (PW.pt (pw_and (pt_cmpR op_gt (pe_ix ix_tup (pv 5) (pe_un un_neg pe_int) (fun _ _ => rfl)) (pe_ix ix_tup (pv 5) (pe_un un_neg pe_int) (fun _ _ => rfl)) (nomark _)) (pw_and1 (pt_cmpR op_ge (pv 6) (pe_op op_add (pv 0) pe_int) (nomark _))))) (pss_one (ps_ret pe_bl)) pss_nil)))))
      (pss_one (ps_ret (pe_cmpR op_le (pe_ix ix_tup (pv 2) (pe_un un_neg pe_int) (fun _ _ => rfl)) (pv 0) (nomark _))))))), ?_⟩
    have hdv : l / (t + 1) ≤ l := Nat.div_le_self _ _
    have hl := first_len l t
    obtain ⟨n, hn⟩ : ∃ n, l / (t + 1) = n := ⟨_, rfl⟩
    rw [hn] at hdv hl
    have hok := first_ok l t
    refine ⟨_, rfl, a, _, 0, .int 0, rfl, rfl, .of ha, (show atI _ ((0 : Nat) : Int) = _ from atI_nat rfl), rfl, _, rfl, ?_⟩
    rw [decide_eq_true rfl]
    refine ⟨_, rfl, _, rfl, ?_⟩
    dsimp only [tNil, List.append_nil]
    refine most_ok hok (by omega) ha h1 fun m H1 s1 hm _ => ?_
    have hmg := first_gaps l t m hm
    refine ⟨_, rfl, _, _, rfl, rfl, _, rfl, ?_⟩
    rw [decide_eq_false (show ¬ (m - 1 > (t : Int)) by omega)]
    refine ⟨_, rfl, a, _, rfl, .of (s1 _ _ ha), by omega, fun q m hm nq => ?_⟩
    obtain ⟨H2, e2, S2, A2⟩ := alloc (o := SetO w q (fun j => decide (j ∈ firstM l t)) m) nq
    refine ⟨q, _, m, rfl, upd_same, by omega, fun ms p hp hmem hlen np => ?_⟩
    have S3 : Same H1 (upd (upd H1 q (SetO w q (fun j => decide (j ∈ firstM l t)) m)) p (.lst (ms.map V.int))) := fun b o e => by
      have h1 : b ≠ q := ne_of_none e nq
      have h2 : b ≠ p := fun z => by
        rw [z] at e h1
        rw [upd_ne h1, e] at np
        cases np
      rw [upd_ne h2, upd_ne h1]
      exact e
    have A3 : (upd (upd H1 q (SetO w q (fun j => decide (j ∈ firstM l t)) m)) p (.lst (ms.map V.int))) p = some (.lst (ms.map V.int)) := upd_same
    have ems : ms = firstM l t := (sorted_same hok.inc hp fun k => by rw [hmem k, decide_eq_true_eq]).symm
    subst ems
    refine ⟨_, rfl, a, _, rfl, .inr (.of (S3 _ _ (s1 _ _ ha))), fun p4 z4 => ?_⟩
    obtain ⟨H4, e4, S4, A4⟩ := alloc (o := .lst ((firstM l t).map V.int)) z4
    rw [e4]
    refine ⟨lI (firstM l t), lI (firstM l t), dp_lI (.of (S4 _ _ A3)), dp_lI (.of A4), shaped_lI _, shaped_lI _, _, rfl, ?_⟩
    rw [eqv_lI, decide_eq_true rfl]
    have s4 : Same H H4 := fun b o e => S4 _ _ (S3 _ _ (s1 _ _ e))
    refine ⟨_, rfl, a, _, rfl, .inr (.of (s4 _ _ ha)), ?_⟩
    rw [List.length_map, hl]
    refine ⟨_, rfl, _, _, rfl, ⟨by omega, by omega, by omega, by omega⟩, ?_⟩
    rw [show (((n + 1 : Nat) : Int) - 1).toNat = n by omega]
    refine for_range (lo := 1) (n := n) (fun i σ H' => ∃ v4 v5 v6 : Option V, σ = [some (.int l), some (.int t), some (.ref a), some (.int ((n + 1 : Nat) : Int)), v4, v5, v6] ∧ Same H H') ⟨none, none, none, rfl, s4⟩ ?_ ?_
    · rintro i σ H5 hi ⟨v4, v5, v6, rfl, s5⟩
      have ha5 := s5 _ _ ha
      have g0 := first_get l t (show i ≤ l / (t + 1) by rw [hn]; omega)
      have g1 := first_get l t (show i + 1 ≤ l / (t + 1) by rw [hn]; omega)
      have ek : (1 : Int) + (i : Nat) = ((i + 1 : Nat) : Int) := by omega
      refine ⟨_, rfl, _, rfl, _, rfl, ?_⟩
      refine slA_ok ha5 fun p6 H6 s6 A6 => ?_
      rw [cut_take _ (i + 1) _ ek] at A6
      refine ⟨_, rfl, _, rfl, a, _, _, _, rfl, rfl, .of (s6 _ _ ha5), (by rw [ek]; exact atI_nat (by rw [List.getElem?_map, g1]; rfl)), _, _, rfl, rfl, (by show 1 ≤ sizeLine; decide), fun p7 z7 => ?_⟩
      obtain ⟨H7, e7, S7, A7⟩ := alloc (o := .tup [V.int (((fsN (l % (t + 1)) (t + 1) (i + 1) : Nat) : Int) - 1)]) z7
      rw [e7]
      refine catA_ok (S7 _ _ A6) A7 (by rw [List.length_map, List.length_take]; show _ + 1 ≤ _; omega) fun p8 H8 s8 A8 => ?_
      have elow : ((firstM l t).take (i + 1)).map V.int ++ [V.int (((fsN (l % (t + 1)) (t + 1) (i + 1) : Nat) : Int) - 1)] = ((firstM l t).take i).map V.int ++ [V.int ((fsN (l % (t + 1)) (t + 1) i : Nat) : Int)] ++ [V.int (((fsN (l % (t + 1)) (t + 1) (i + 1) : Nat) : Int) - 1)] := by
        rw [List.take_succ, g0, List.map_append]
        rfl
      rw [elow] at A8
      have hle := lt_eq l t
      rw [hn] at hle
      have hfar : (((fsN (l % (t + 1)) (t + 1) (i + 1) : Nat) : Int) - 1) + (((n + 1 : Nat) : Int) - (1 + (i : Nat))) * ((t : Int) + 1) = (l : Int) := by
        rw [show ((n + 1 : Nat) : Int) - (1 + (i : Nat)) = ((n - i : Nat) : Int) by omega, show ((n - i : Nat) : Int) * ((t : Int) + 1) = (((n - i) * (t + 1) : Nat) : Int) by rw [Int.natCast_mul]; rfl]
        have e1 : i * (t + 1) + (n - i) * (t + 1) = n * (t + 1) := by rw [← Nat.add_mul, show i + (n - i) = n by omega]
        show ((l % (t + 1) + 1 + i * (t + 1) : Nat) : Int) - 1 + _ = _
        generalize n * (t + 1) = q1 at e1 hle
        generalize (n - i) * (t + 1) = q2 at e1
        generalize i * (t + 1) = q3 at e1
        generalize l % (t + 1) = q4 at hle
        omega
      refine ⟨_, rfl, _, rfl, p8, _, _, _, rfl, rfl, .of A8, atI_last _ _, ?_⟩
      refine ⟨_, rfl, _, rfl, _, _, rfl, rfl, _, rfl, _, _, rfl, rfl, _, _, rfl, rfl, .inl ⟨by omega, by omega⟩, _, _, rfl, rfl, ?_⟩
      dsimp only
      rw [hfar]
      refine ⟨_, rfl, _, rfl, p8, _, _, _, rfl, rfl, .of A8, atI_last _ _, _, rfl, _, rfl, p8, _, _, _, rfl, rfl, .of A8, atI_last2 _ _ _, _, _, rfl, rfl, _, rfl, ?_⟩
      have s8' : Same H H8 := fun b o e => s8 _ _ (S7 _ _ (s6 _ _ (s5 _ _ e)))
      by_cases hb : ((fsN (l % (t + 1)) (t + 1) i : Nat) : Int) < ((fsN (l % (t + 1)) (t + 1) (i + 1) : Nat) : Int) - 1
      · rw [decide_eq_true hb]
        refine ⟨_, rfl, _, rfl, _, _, rfl, rfl, _, _, rfl, rfl, _, rfl, ?_⟩
        rw [decide_eq_false (show ¬ ((l : Int) + 1 ≤ (l : Int)) by omega)]
        exact ⟨_, _, _, rfl, s8'⟩
      · rw [decide_eq_false hb]
        exact ⟨_, _, _, rfl, s8'⟩
    · rintro σ H5 ⟨v4, v5, v6, rfl, s5⟩
      have ha5 := s5 _ _ ha
      have hlast := fs_last l t
      have g0 := first_get l t (show l / (t + 1) ≤ l / (t + 1) from Nat.le_refl _)
      rw [hn] at hlast g0
      have ele : (firstM l t).map V.int = ((firstM l t).take n).map V.int ++ [V.int ((fsN (l % (t + 1)) (t + 1) n : Nat) : Int)] := by
        have : firstM l t = (firstM l t).take n ++ [((fsN (l % (t + 1)) (t + 1) n : Nat) : Int)] := by
          have h := List.take_succ (i := n) (l := firstM l t)
          rw [g0, List.take_of_length_le (by omega)] at h
          exact h
        conv => lhs; rw [this]
        rw [List.map_append]
        rfl
      rw [ele] at ha5
      refine ⟨_, rfl, _, rfl, a, _, _, _, rfl, rfl, .of ha5, atI_last _ _, _, rfl, _, _, rfl, rfl, ?_⟩
      show Q (.bl (decide (((fsN (l % (t + 1)) (t + 1) n : Nat) : Int) ≤ (l : Int)))) H5
      rw [decide_eq_true (by omega)]
      exact k H5 s5
end
end T34

set_option Elab.async false
set_option linter.all false
set_option maxRecDepth 100000
set_option maxHeartbeats 4000000
namespace T34
open PySem L2 EK
theorem bad2_no {CN : Addr} {l s : Nat} {H : Hp} {E : XK} (h : l ≤ 300) : bad2 CN (.int (l : Nat)) (.int (s : Nat)) H E := by
  have h1 : numBB (.int (l : Nat)) 0 300 = true := by
    show (decide ((0 : Int) ≤ (l : Nat)) && decide (((l : Nat) : Int) ≤ 300)) = true
    rw [decide_eq_true (by omega), decide_eq_true (by omega)]
    rfl
  have h2 : numB (.int (s : Nat)) 0 = true := decide_eq_true (show (0 : Int) ≤ (s : Nat) by omega)
  exact ⟨fun z => absurd z (by rw [h1]; decide), fun _ z => absurd z (by rw [h2]; decide)⟩
theorem least_ok {CN : Addr} {l s : Nat} {H : Hp} {Q : VK} {E : XK} (h : l ≤ 300) (hs : s < 2 ^ 200) (k : Q (.int ((l / (s + 1) + 1 : Nat) : Int)) H) : spLeast CN [.int (l : Nat), .int (s : Nat)] H Q E :=
  ⟨_, _, rfl, .int _, .int _, bad2_no h, fun l' s' e1 e2 _ _ _ => by
    cases e1
    cases e2
    exact ⟨by omega, by rw [least_nat]; exact k⟩⟩
theorem num_ok {CN : Addr} {l s : Nat} {H : Hp} {Q : VK} {E : XK} (h : l ≤ 300) (hs : s < 2 ^ 200) (k : Q (.int (numM l s)) H) : spNum CN [.int (l : Nat), .int (s : Nat)] H Q E :=
  ⟨_, _, rfl, .int _, .int _, bad2_no h, fun l' s' e1 e2 _ _ _ => by
    cases e1
    cases e2
    exact ⟨by omega, k⟩⟩
theorem fst_ok {CN : Addr} {l s : Nat} {H : Hp} {Q : VK} {E : XK} (h : l ≤ 300) (hs : s < 2 ^ 200) (k : ∀ p H1, Same H H1 → H1 p = some (.tup ((firstM l s).map V.int)) → Q (.ref p) H1) : spFirst CN [.int (l : Nat), .int (s : Nat)] H Q E :=
  ⟨_, _, rfl, .int _, .int _, bad2_no h, fun l' s' e1 e2 _ _ _ => by
    cases e1
    cases e2
    exact ⟨by omega, k⟩⟩
/-- so many fit round -/
def fitB (l s i : Nat) : Bool := decide ((l : Int) + 1 ≤ (1 + (i : Nat)) * ((s : Int) + 1))
theorem fit_head (l s : Nat) : (((List.range (l + 1)).filter (fitB l s)).map fun i => (1 : Int) + (i : Nat))[0]? = some ((l / (s + 1) + 1 : Nat) : Int) := by
  have hle := lt_eq l s
  have hr := Nat.mod_lt l (show 0 < s + 1 by omega)
  have hdv : l / (s + 1) ≤ l := Nat.div_le_self _ _
  have cast : ∀ i : Nat, (1 + (i : Int)) * ((s : Int) + 1) = (((i + 1) * (s + 1) : Nat) : Int) := fun i => by
    rw [Int.natCast_mul, show (1 + (i : Int)) = ((i + 1 : Nat) : Int) by omega]
    rfl
  have h1 : (List.range (l + 1)).find? (fitB l s) = some (l / (s + 1)) := by
    rw [List.find?_range_eq_some]
    refine ⟨decide_eq_true ?_, List.mem_range.mpr (by omega), fun j hj => ?_⟩
    · rw [cast, Nat.succ_mul]
      omega
    · have : (j + 1) * (s + 1) ≤ l / (s + 1) * (s + 1) := Nat.mul_le_mul_right _ hj
      have h2 : fitB l s j = false := decide_eq_false (by rw [cast]; omega)
      rw [h2]
      rfl
  rw [List.getElem?_map, ← List.head?_eq_getElem?, List.head?_filter, h1]
  exact congrArg some (show (1 : Int) + ((l / (s + 1) : Nat) : Int) = ((l / (s + 1) + 1 : Nat) : Int) by rw [Int.natCast_add, Int.add_comm]; rfl)
theorem facts : numM 300 (10 ^ 40) = 301 ∧ numM 300 0 = 1 := by decide +kernel
def spLaw (K : PySem.W.Frag) : Sp := fun vs H Q _ => ∃ (a : Addr) (ns : List Int), vs = [.ref a] ∧ SqL K H a (ns.map V.int) ∧ ns.length ≤ 63 ∧ ∀ H', Q (.bl true) H'
abbrev NL : List Str := ["_law_script", "_law_cell", "_law_urn_here", "_law_size", "_law_steps", "_law_many", "_law_due", "_law_k"]
theorem UrnAt.mono {H : Hp} {a : Addr} {n m : Int} (h : UrnAt H a n) (hm : n ≤ m) : UrnAt H a m := by
  obtain ⟨w0, w1, w2, e, h1, h2, h3, h4⟩ := h
  exact ⟨w0, w1, w2, e, h1, h2, h3, by omega⟩
theorem UrnAt.keep {H H' : Hp} {a : Addr} {n : Int} (h : UrnAt H a n) (s : ∀ o, H a = some o → H' a = some o) : UrnAt H' a n := by
  obtain ⟨w0, w1, w2, e, h1⟩ := h
  exact ⟨w0, w1, w2, s _ e, h1⟩
theorem UrnAt.ne {H : Hp} {a b : Addr} {n : Int} (h : UrnAt H a n) (hb : H b = none) : b ≠ a := fun e => by
  obtain ⟨w0, w1, w2, h1, _⟩ := h
  rw [e, h1] at hb
  cases hb
theorem UrnAt.keepS {H H' : Hp} {a : Addr} {n : Int} (h : UrnAt H a n) (s : Same H H') : UrnAt H' a n := h.keep fun o e => s _ _ e
section
variable {P : Program} {w : World} {K : PySem.W.Frag} {mg : Str → Option Value} {base : Heap} {CN CS fU fP fI fL fSN fF fRW fFR : Addr} {fdU fdP fdI fdL fdSN fdF fdRW fdFR : FuncData}
theorem scLaw : FnScope NL ["_law_script"] (defScope sLaw) := ⟨rfl, rfl, rfl, by decide +kernel, rfl, by decide +kernel, by decide +kernel⟩
theorem ok_law {f : Addr} {fd : FuncData} (F : Fun K "law" "law" sLaw f fd) (T : TxtC K mg)
    (GU : FnOk P w K mg base CX0 1 fU fdU ["_law_cell"] spUrn) (gU : mg "_law_urn" = some (.ref fU)) (kU : PySem.W.keepIn K (.ref fU) = true) (bU : Binds K fdU ["_law_cell"] [])
    (GP : FnOk P w K mg base CX0 1 fP fdP ["_law_urn_here", "_law_many"] spPull) (gP : mg "_law_pull" = some (.ref fP)) (kP : PySem.W.keepIn K (.ref fP) = true) (bP : Binds K fdP ["_law_urn_here", "_law_many"] [])
    (GI : FnOk P w K mg base CX0 2 fI fdI ["_law_urn_here", "_law_some"] spPick) (gI : mg "_law_pick" = some (.ref fI)) (kI : PySem.W.keepIn K (.ref fI) = true) (bI : Binds K fdI ["_law_urn_here", "_law_some"] [])
    (GL : FnOk P w K mg base (L2.CX P w) 5 fL fdL ["length", "steps"] (spLeast CN)) (gL : mg "least_samples" = some (.ref fL)) (kL : PySem.W.keepIn K (.ref fL) = true) (bL : Binds K fdL ["length", "steps"] [])
    (GSN : FnOk P w K mg base (L2.CX P w) 6 fSN fdSN ["length", "steps"] (spNum CN)) (gSN : mg "samplings_number" = some (.ref fSN)) (kSN : PySem.W.keepIn K (.ref fSN) = true) (bSN : Binds K fdSN ["length", "steps"] [])
    (GF : FnOk P w K mg base (L2.CX P w) 6 fF fdF ["length", "steps"] (spFirst CN)) (gF : mg "first_sampling" = some (.ref fF)) (kF : PySem.W.keepIn K (.ref fF) = true) (bF : Binds K fdF ["length", "steps"] [])
    (GRW : FnOk P w K mg base CX0 1 fRW fdRW ["_law_total", "_law_many", "_law_most"] spRows) (gRW : mg "_law_rows" = some (.ref fRW)) (kRW : PySem.W.keepIn K (.ref fRW) = true) (bRW : Binds K fdRW ["_law_total", "_law_many", "_law_most"] [])
    (GFR : FnOk P w K mg base CX0 6 fFR fdFR ["_law_size", "_law_steps", "_law_samples"] spFR) (gFR : mg "_law_first_right" = some (.ref fFR)) (kFR : PySem.W.keepIn K (.ref fFR) = true) (bFR : Binds K fdFR ["_law_size", "_law_steps", "_law_samples"] []) :
    FnOk P w K mg base CX0 7 f fd ["_law_script"] (spLaw K) := by
  refine F.ok scLaw (fun vs H Q E h => ?_) (fun cdv A outer s H vs Q E hr h => ?_)
  · obtain ⟨a, ns, rfl, _⟩ := h
    rfl
  · obtain ⟨a, ns, rfl, hS, hlen, k⟩ := h
    have nd := scLaw.nd
    have hz : sizeLine = 2 ^ 24 := sizeLine_eq
    have hr1 : Room 1 _ := hr.mono (by decide)
    have hr2 : Room 2 _ := hr.mono (by decide)
    have hr5 : Room 5 _ := hr.mono (by decide)
    have hr6 : Room 6 _ := hr
    refine ⟨_, (pss_cons (ps_for PassesOwn.never rfl (pi_list (pe_op op_cat (pe_slice sl_list (pv 0) po_none (po_some pe_int)) (pe_lst (pa_cons pe_int pa_nil)))) (pg_name (i := 1) nd rfl (Or.inl rfl)) (pss_cons (ps_set (i := 2) nd rfl (Or.inl rfl) (pe_call GU hr1 rfl gU kU bU .nil pass0 (pa_cons (pv 1) pa_nil)))
      (pss_one (ps_for PassesOwn.never rfl (pi_tup (pe_tup (pa_cons (pe_call GP hr1 rfl gP kP bP .nil pass0 (pa_cons (pv 2) (pa_cons pe_int pa_nil))) (pa_cons (pe_call GP hr1 rfl gP kP bP .nil pass0 (pa_cons (pv 2) (pa_cons pe_int pa_nil))) pa_nil)))) (pg_name (i := 3) nd rfl (Or.inr rfl)) (pss_cons (ps_set (i := 4) nd rfl (Or.inr rfl) (pe_call GI hr2 rfl gI kI bI .nil pass0 (pa_cons (pv 2) (pa_cons (pe_lst (pa_cons (pe_call GP hr1 rfl gP kP bP .nil pass0 (pa_cons (pv 2) (pa_cons pe_int pa_nil))) (pa_cons (pe_call GP hr1 rfl gP kP bP .nil pass0 (pa_cons (pv 2) (pa_cons pe_int pa_nil))) (pa_cons (pe_call GP hr1 rfl gP kP bP .nil pass0 (pa_cons (pv 2) (pa_cons pe_int pa_nil))) (pa_cons (pv 3) (pa_cons (pe_op op_pow pe_int pe_int) pa_nil)))))) pa_nil))))
      (pss_cons (ps_set (i := 5) nd rfl (Or.inl rfl) (pe_ix ix_list (pe_lc (own := [("_law_k", 7)]) (g := gName 7) rfl nd (pi_range2 (by rfl) T.range (pa_cons pe_int (pa_cons (pe_op op_add (pv 3) pe_int) pa_nil))) (blkOk_by (N := NL) (sc := defScope sLaw) (by decide +kernel)) (fun _ _ _ _ _ => (pg_name (i := 7) nd rfl (Or.inl rfl))) (fun _ _ _ _ _ => (pts_one (pt_cmpR op_ge (pe_op op_mul (pv 7) (pe_op op_add (pv 4) pe_int)) (pe_op op_add (pv 3) pe_int) (nomark _)))) (fun _ _ _ _ _ => (pv 7))) pe_int (fun _ _ => rfl)))
      (pss_cons (ps_if (PW.pt (pw_or (pt_cmpR op_ne (pe_call GL hr5 rfl gL kL bL .nil passL (pa_cons (pv 3) (pa_cons (pv 4) pa_nil))) (pv 5) (nomark _)) (pw_or1 (pt_cmpR op_ne (pe_callB call_len_seq (by rfl) T.len (by decide +kernel) (pa_cons (pe_call GF hr6 rfl gF kF bF .nil passL (pa_cons (pv 3) (pa_cons (pv 4) pa_nil))) pa_nil)) (pv 5) (nomark _))))) (pss_one (ps_ret pe_bl)) pss_nil)
      (pss_cons (ps_set (i := 6) nd rfl (Or.inl rfl) (pe_op op_fdiv (pe_op op_mul (pe_op op_add (pv 3) pe_int) (pe_call GRW hr1 rfl gRW kRW bRW .nil pass0 (pa_cons (pe_op op_add (pv 3) pe_int) (pa_cons (pv 5) (pa_cons (pe_callB (call_min2 rfl) (by rfl) T.min (by decide +kernel) (pa_cons (pe_op op_add (pv 4) pe_int) (pa_cons (pe_op op_add (pv 3) pe_int) pa_nil))) pa_nil))))) (pv 5)))
      (pss_one (ps_if (PW.pt (pw_or (pt_cmpR op_ne (pe_call GSN hr6 rfl gSN kSN bSN .nil passL (pa_cons (pv 3) (pa_cons (pv 4) pa_nil))) (pv 6) (nomark _)) (pw_or1 (pt_not (pt_val (pe_call GFR hr6 rfl gFR kFR bFR .nil pass0 (pa_cons (pv 3) (pa_cons (pv 4) (pa_cons (pe_call GF hr6 rfl gF kF bF .nil passL (pa_cons (pv 3) (pa_cons (pv 4) pa_nil))) pa_nil))))))))) (pss_one (ps_ret pe_bl)) pss_nil))))))))))
      (pss_one (ps_ret (pe_and (pe_cmpR op_eq (pe_call GSN hr6 rfl gSN kSN bSN .nil passL (pa_cons pe_int (pa_cons (pe_op op_pow pe_int pe_int) pa_nil))) pe_int (nomark _)) (pe_and (pe_cmpR op_eq (pe_call GSN hr6 rfl gSN kSN bSN .nil passL (pa_cons pe_int (pa_cons pe_int pa_nil))) pe_int (nomark _)) (pe_one (pe_cmpR op_eq (pe_call GL hr5 rfl gL kL bL .nil passL (pa_cons pe_int (pa_cons pe_int pa_nil))) pe_int (nomark _)))))))), ?_⟩
    refine ⟨_, rfl, 3, rfl, a, _, rfl, hS, fun p0 z0 => ?_⟩
    rw [cut_take _ 3 3 rfl]
    obtain ⟨H0, e0, S0, A0⟩ := alloc (o := .lst ((ns.take 3).map V.int)) z0
    rw [e0]
    refine ⟨(by show 1 ≤ sizeLine; decide), fun p1 z1 => ?_⟩
    obtain ⟨H1, e1, S1, A1⟩ := alloc (o := .lst [.int 0]) z1
    rw [e1]
    refine ⟨p0, p1, _, _, rfl, rfl, S1 _ _ A0, A1, (by rw [List.length_map, List.length_take]; show _ + 1 ≤ _; omega), fun p2 z2 => ?_⟩
    have em : (ns.take 3).map V.int ++ [V.int 0] = (ns.take 3 ++ [0]).map V.int := by rw [List.map_append]; rfl
    rw [em]
    obtain ⟨H2, e2, S2, A2⟩ := alloc (o := .lst ((ns.take 3 ++ [0]).map V.int)) z2
    rw [e2]
    generalize hcs : ns.take 3 ++ [0] = cs at A2
    refine ⟨p2, rfl, ⟨_, .of A2⟩, for_list (K := K) (a := p2) (xs := cs.map V.int) (fun i σ H' => ∃ v1 v2 v3 v4 v5 v6 : Option V, σ = [some (.ref a), v1, v2, v3, v4, v5, v6, none] ∧ H' p2 = some (.lst (cs.map V.int))) ⟨none, none, none, none, none, none, rfl, A2⟩ (fun i σ H' _ ⟨_, _, _, _, _, _, _, s⟩ => .of s) ?_ ?_⟩
    · rintro i x σ H3 hi ⟨v1, v2, v3, v4, v5, v6, rfl, h2⟩
      obtain ⟨c, hc, rfl⟩ : ∃ c, cs[i]? = some c ∧ V.int c = x := by
        rw [List.getElem?_map] at hi
        cases h : cs[i]? with
        | none => rw [h] at hi; cases hi
        | some t => rw [h] at hi; exact ⟨t, rfl, Option.some.inj hi⟩
      refine ⟨_, rfl, c, rfl, fun wl H4 nwl hw4 s4 => ?_⟩
      have hp2 : p2 ≠ wl := fun e => by rw [← e, h2] at nwl; cases nwl
      have h24 := s4 _ _ h2
      refine ⟨_, rfl, wl, 301, _, rfl, hw4, by omega, by decide, by decide, fun d5 H5 d50 d51 hw5 hk5 => ?_⟩
      refine ⟨_, rfl, wl, 81, _, rfl, hw5, by omega, by decide, by decide, fun d6 H6 d60 d61 hw6 hk6 => ?_⟩
      have h26 := hk6 _ _ (hk5 _ _ h24 hp2) hp2
      refine ⟨(by show 2 ≤ sizeLine; decide), fun p7 z7 => ?_⟩
      obtain ⟨H7, e7, S7, A7⟩ := alloc (o := .tup [.int d5, .int d6]) z7
      rw [e7]
      have hp7 : p7 ≠ wl := hw6.ne z7
      refine ⟨p7, rfl, ⟨_, .of A7⟩, for_tup (K := K) (a := p7) (xs := [.int d5, .int d6]) (fun i σ H' => ∃ v3 v4 v5 v6 : Option V, σ = [some (.ref a), some (.int c), some (.ref wl), v3, v4, v5, v6, none] ∧ UrnAt H' wl (10 + 10 * (i : Nat)) ∧ H' p2 = some (.lst (cs.map V.int)) ∧ H' p7 = some (.tup [.int d5, .int d6])) ⟨v3, v4, v5, v6, rfl, (hw6.keepS S7).mono (by omega), S7 _ _ h26, A7⟩ (fun i σ H' _ ⟨_, _, _, _, _, _, _, s⟩ => .of s) ?_ ?_⟩
      · rintro j x σ H8 hj ⟨v3, v4, v5, v6, rfl, hw8, h28, h78⟩
        have hj2 : j < 2 := (List.getElem?_eq_some_iff.mp hj).1
        obtain ⟨l, hl, rfl⟩ : ∃ l : Nat, l ≤ 300 ∧ x = V.int (l : Nat) := by
          have hx := List.mem_of_getElem? hj
          rcases List.mem_cons.mp hx with rfl | hx
          · exact ⟨d5.toNat, by omega, congrArg V.int (by omega)⟩
          · rw [List.mem_singleton.mp hx]
            exact ⟨d6.toNat, by omega, congrArg V.int (by omega)⟩
        refine ⟨_, rfl, _, rfl, wl, 4, _, rfl, hw8, by omega, by decide, by decide, fun d9 H9 d90 d91 hw9 hk9 => ?_⟩
        refine ⟨_, rfl, wl, 40, _, rfl, hw9, by omega, by decide, by decide, fun d10 H10 d100 d101 hw10 hk10 => ?_⟩
        refine ⟨_, rfl, wl, 301, _, rfl, hw10, by omega, by decide, by decide, fun d11 H11 d110 d111 hw11 hk11 => ?_⟩
        have h211 := hk11 _ _ (hk10 _ _ (hk9 _ _ h28 hp2) hp2) hp2
        have h711 := hk11 _ _ (hk10 _ _ (hk9 _ _ h78 hp7) hp7) hp7
        refine ⟨_, rfl, _, _, rfl, rfl, ⟨by decide, by decide, by decide⟩, (by show 5 ≤ sizeLine; decide), fun p12 z12 => ?_⟩
        have e30 : (10 : Int) ^ (30 : Int).toNat = ((10 ^ 30 : Nat) : Int) := by decide +kernel
        obtain ⟨H12, e12, S12, A12⟩ := alloc (o := .lst [.int d9, .int d10, .int d11, .int (l : Nat), .int ((10 : Int) ^ (30 : Int).toNat)]) z12
        rw [show upd H11 p12 _ = H12 from e12]
        have hw12 := hw11.keepS S12
        refine ⟨wl, _, p12, _, rfl, hw12, by omega, A12, hw11.ne z12, (by show 0 < 5; decide), (by show 5 ≤ 1000; decide), fun y H13 hy hw13 hk13 => ?_⟩
        obtain ⟨t, ht, rfl⟩ : ∃ t : Nat, t < 2 ^ 200 ∧ y = V.int (t : Nat) := by
          have far : ∀ d : Int, 0 ≤ d → d < 301 → ∃ t : Nat, t < 2 ^ 200 ∧ V.int d = V.int (t : Nat) := fun d h0 h1 => ⟨d.toNat, by omega, congrArg V.int (by omega)⟩
          rcases List.mem_cons.mp hy with rfl | hy
          · exact far _ d90 (by omega)
          · rcases List.mem_cons.mp hy with rfl | hy
            · exact far _ d100 (by omega)
            · rcases List.mem_cons.mp hy with rfl | hy
              · exact far _ d110 d111
              · rcases List.mem_cons.mp hy with rfl | hy
                · exact ⟨l, by omega, rfl⟩
                · rw [List.mem_singleton.mp hy, e30]
                  exact ⟨_, by decide +kernel, rfl⟩
        have h213 := hk13 _ _ (S12 _ _ h211) hp2
        have h713 := hk13 _ _ (S12 _ _ h711) hp7
        have hdv : l / (t + 1) ≤ l := Nat.div_le_self _ _
        have hh := fit_head l t
        have hnr := num_rows l t
        have hfl := first_len l t
        obtain ⟨n, hn⟩ : ∃ n, l / (t + 1) = n := ⟨_, rfl⟩
        rw [hn] at hdv hh hnr hfl
        refine ⟨_, rfl, _, _, rfl, rfl, _, _, rfl, ⟨by omega, by omega, by omega, by omega⟩, fun D nD => ?_⟩
        rw [show ((l : Int) + 2 - 1).toNat = l + 1 by omega]
        refine lcM_range (R' := RInt) (n := l + 1) (fitB l t) (fun i => (1 : Int) + (i : Nat)) nD rint_keep (by omega) ?_ ?_
        · intro kk H14 C C0 hkk s14 c1 c0
          refine ⟨rfl, _, rfl, _, rfl, _, _, rfl, rfl, _, _, rfl, rfl, .inl ⟨by omega, by omega⟩, _, rfl, _, _, rfl, rfl, _, _, rfl, rfl, _, rfl, ?_⟩
          show if fitB l t kk = true then _ else _
          cases hb : fitB l t kk
          · exact c0 hb _ fun _ _ e => e
          · exact ⟨_, rfl, c1 hb _ _ (fun _ _ e => e) rfl⟩
        · intro ws H14 s14 hD hws
          have ew := rint_map hws
          refine ⟨D, _, 0, .int ((n + 1 : Nat) : Int), rfl, rfl, .of hD, (show atI _ ((0 : Nat) : Int) = _ from atI_nat (by rw [ew, List.getElem?_map, hh]; rfl)), ?_⟩
          refine ⟨_, rfl, _, rfl, ?_⟩
          dsimp only [tNil, List.append_nil]
          refine least_ok hl ht ?_
          rw [hn]
          refine ⟨_, rfl, rfl, _, rfl, ?_⟩
          rw [decide_eq_true rfl]
          refine ⟨_, rfl, _, rfl, ?_⟩
          dsimp only [tNil, List.append_nil]
          refine fst_ok hl ht fun p15 H15 s15 A15 => ?_
          refine ⟨p15, _, rfl, .inr (.of A15), _, rfl, rfl, _, rfl, ?_⟩
          rw [List.length_map, hfl, decide_eq_true rfl]
          have emin : (if (l : Int) + 1 < (t : Int) + 1 then (l : Int) + 1 else (t : Int) + 1) = ((min (t + 1) (l + 1) : Nat) : Int) := by
            split <;> omega
          refine ⟨_, rfl, _, _, rfl, rfl, _, rfl, _, _, rfl, rfl, _, rfl, _, rfl, _, _, rfl, rfl, _, rfl, _, _, rfl, rfl, _, _, rfl, ?_⟩
          rw [emin]
          refine ⟨l + 1, n + 1, min (t + 1) (l + 1), rfl, by omega, by omega, by omega, fun H16 s16 => ?_⟩
          refine ⟨_, _, rfl, rfl, .inl ⟨by omega, by omega⟩, _, rfl, _, _, rfl, rfl, ⟨by omega, by omega⟩, ?_⟩
          refine ⟨_, rfl, _, rfl, ?_⟩
          dsimp only [tNil, List.append_nil]
          refine num_ok hl ht ?_
          refine ⟨_, rfl, rfl, _, rfl, ?_⟩
          rw [hnr, decide_eq_true rfl]
          refine ⟨_, rfl, _, rfl, _, rfl, _, rfl, ?_⟩
          dsimp only [tNil, List.append_nil]
          refine fst_ok hl ht fun p17 H17 s17 A17 => ?_
          refine ⟨l, t, p17, rfl, hl, ht, A17, fun H18 s18 => ⟨_, rfl, ?_⟩⟩
          have sall : Same H13 H18 := fun b o e => s18 _ _ (s17 _ _ (s16 _ _ (s15 _ _ (s14 _ _ e))))
          exact ⟨_, _, _, _, rfl, (hw13.keepS sall).mono (by omega), sall _ _ h213, sall _ _ h713⟩
      · rintro σ H8 ⟨v3, v4, v5, v6, rfl, hw8, h28, h78⟩
        exact ⟨_, _, _, _, _, _, rfl, h28⟩
    · rintro σ H3 ⟨v1, v2, v3, v4, v5, v6, rfl, h2⟩
      obtain ⟨f1, f2⟩ := facts
      refine ⟨_, _, rfl, rfl, ⟨by decide, by decide, by decide⟩, ?_⟩
      dsimp only [tNil, List.append_nil]
      refine num_ok (l := 300) (s := 10 ^ 40) (by decide) (by decide +kernel) ?_
      rw [show ((300 : Nat) : Int) = 300 from rfl, show (((10 ^ 40 : Nat)) : Int) = 10 ^ 40 by decide +kernel, f1]
      refine ⟨rfl, ?_⟩
      rw [decide_eq_true rfl]
      refine ⟨_, rfl, ?_⟩
      rw [if_pos rfl]
      dsimp only [tAndV, tOp, tCall, tCons, tC, tNil, List.append_nil]
      refine num_ok (l := 300) (s := 0) (by decide) (by decide +kernel) ?_
      rw [show ((300 : Nat) : Int) = 300 from rfl, show ((0 : Nat) : Int) = 0 from rfl, f2]
      refine ⟨rfl, ?_⟩
      rw [decide_eq_true rfl]
      refine ⟨_, rfl, ?_⟩
      rw [if_pos rfl]
      refine least_ok (l := 300) (s := 0) (by decide) (by decide +kernel) ?_
      refine ⟨rfl, ?_⟩
      rw [show (V.int ((300 / (0 + 1) + 1 : Nat) : Int)) = V.int 301 from rfl, decide_eq_true rfl]
      exact k _
end
end T34

set_option Elab.async false
set_option linter.all false
set_option maxRecDepth 100000
set_option maxHeartbeats 4000000
/-! ErrEnd: an error class's facts, from what the top has written. -/
namespace EK
open PySem PySem.W L2
def errB (K : Frag) (C fI : Addr) (f : Str) : Bool :=
  xfB K C && (decide (findIn K (.ref C) "__setattr__" = some (some (.builtin "object.__setattr__"))) && (decide (findIn K (.ref C) f = some none) && (decide (typeIn K (.ref fI) = some (.type "function")) && (keepIn K (.ref C) &&
  (decide (typeIn K (.ref C) = some (.type "type")) && (decide (exmOne K (.ref C) (.ref C) = some true) && (decide (subIn K (.ref C) (.type "ValueError") = some true) && (decide (ks_superIn K C C "__init__" = some (some (.builtin "ValueError.__init__"))) &&
  (decide (mroIn K C (.ref C) = some true) && (decide (findIn K (.ref C) "__class__" = some (some (.builtin "object.__class__"))) && decide (mroIn K C (.type "object") = some true)))))))))))
theorem and2 {a b : Bool} (h : (a && b) = true) : a = true ∧ b = true := Bool.and_eq_true_iff.mp h
theorem err_mk {P : Program} {K : Frag} {h : Heap} {mg : Str → Option Value} {x f : Str} {C fI N cda cc : Addr} (X : K.In h) (G : h.Ns mainGlobals mg)
    {nm q qn msg file : Str} {bs bm : List Value} {sn : List Str} {sub : List Value} {ab : Bool} {col : Option Bool} {dd od an cdd cld : Option Addr} {m0 m1 m2 m3 m5 : Option Value} {oc doc pm ct ccl cl : Value} {osl ccs csl : Array (Option Value)} {vs : Array Value} {tf : Tok}
    {p1 p2 a1 a2 a3 a4 a5 a6 b1 b2 b3 b4 : Pos}
    (aC : nsIn K mainGlobals x = some (some (.ref C))) (xL : K.lookup C = some (excClassObj nm q C N bs bm true sn sub ab col dd m0 m1 m2 m3 m5 "ValueError.__new__")) (rv : HandSPX.refsVE bm = true)
    (iC : findIn K (.ref C) "__init__" = some (some (.ref fI)))
    (l1 : K.lookup fI = some ⟨oc, od, .func (ksFn "__init__" qn (eArgs f p1 p2) (eBody f msg a1 a2 a3 a4 a5 a6 b1 b2 b3 b4) (eScope f) .none .none doc pm an (.ref cda) ct cc), osl⟩) (c1 : codeIn K (.ref cda) qn = true)
    (bd : ∀ u v : Value, bindArgs (ksFn "__init__" qn (eArgs f p1 p2) (eBody f msg a1 a2 a3 a4 a5 a6 b1 b2 b3 b4) (eScope f) .none .none doc pm an (.ref cda) ct cc) ⟨[u, v], []⟩ = pure [(("self" : Str), u), (f, v)])
    (sc : ∀ L : Addr, SupCall a1 a2 a3 a4 a5 msg (callEnv (ksFn "__init__" qn (eArgs f p1 p2) (eBody f msg a1 a2 a3 a4 a5 a6 b1 b2 b3 b4) (eScope f) .none .none doc pm an (.ref cda) ct cc) L fI))
    (cd : K.lookup cda = some ⟨ccl, cdd, .fields vs, ccs⟩) (vf : vs[2]? = some (.str file tf)) (pf : ((P.main.file : Str) == file) = true) (cL : K.lookup cc = some ⟨cl, cld, .cell (some (.ref C)), csl⟩)
    (eB : errB K C fI f = true) (ho : nsIn K cStatics "thirdparty.any" = some none) (su : nsIn K mainGlobals "super" = some none) (fok : f ≠ "self" ∧ f ≠ "__class__" ∧ f ≠ "super" ∧ f ≠ "__debug__") (top : (P.main.scope.names.lookup ("super" : Str)).isSome = false) :
    ErrTxt P K mg x f C fI := by
  obtain ⟨h1, eB⟩ := and2 eB
  obtain ⟨h2, eB⟩ := and2 eB
  obtain ⟨h3, eB⟩ := and2 eB
  obtain ⟨h4, eB⟩ := and2 eB
  obtain ⟨h5, eB⟩ := and2 eB
  obtain ⟨h6, eB⟩ := and2 eB
  obtain ⟨h7, eB⟩ := and2 eB
  obtain ⟨h8, eB⟩ := and2 eB
  obtain ⟨h9, eB⟩ := and2 eB
  obtain ⟨h10, eB⟩ := and2 eB
  have T := xfB_ok h1
  exact { gC := mg_of X G aC, cls := ⟨nm, q, N, bs, bm, sn, sub, ab, col, dd, m0, m1, m2, m3, m5, xL, rv⟩, sa := of_decide_eq_true h2, ga := T.ga, gg := T.gg, noN := of_decide_eq_true h3, iC := iC, tC := of_decide_eq_true h4, kC := h5, exC := T.exC,
          tyC := of_decide_eq_true h6, hdC := T.hdC, te := of_decide_eq_true h7, hB := of_decide_eq_true h8, si := of_decide_eq_true h9, ho := ho, su := mg_none_of X G su, mC := of_decide_eq_true h10, fok := fok, top := top,
          fn := ⟨oc, od, qn, msg, doc, pm, an, cda, cc, ct, osl, p1, p2, a1, a2, a3, a4, a5, a6, b1, b2, b3, b4, l1, c1, bd, sc, ⟨ccl, cdd, ccs, vs, file, tf, cd, vf, pf⟩, ⟨cl, cld, csl, cL⟩⟩ }
theorem excC_of {K : Frag} {C fI : Addr} {f : Str} (eB : errB K C fI f = true) (hn : specialIn K (.builtin "object.__class__") "__get__" = some (some (.builtin "getset_descriptor.__get__"))) (ht : takesIn K (.builtin "object.__class__") = some true) : ExcC K C := by
  obtain ⟨h1, eB⟩ := and2 eB
  obtain ⟨h2, eB⟩ := and2 eB
  obtain ⟨h3, eB⟩ := and2 eB
  obtain ⟨h4, eB⟩ := and2 eB
  obtain ⟨h5, eB⟩ := and2 eB
  obtain ⟨h6, eB⟩ := and2 eB
  obtain ⟨h7, eB⟩ := and2 eB
  obtain ⟨h8, eB⟩ := and2 eB
  obtain ⟨h9, eB⟩ := and2 eB
  obtain ⟨h10, eB⟩ := and2 eB
  obtain ⟨h11, h12⟩ := and2 eB
  have T := xfB_ok h1
  exact ⟨T.ga, T.gg, T.exC, T.hdC, of_decide_eq_true h11, hn, ht, of_decide_eq_true h12⟩
/-- which class is which, told apart -/
def kindsB (K : Frag) (E : Addr) (Cs : List Addr) : Bool :=
  (Cs.zipIdx.all fun p => Cs.zipIdx.all fun q => decide (kitOne K (.ref p.1) (.ref q.1) = some (decide (p.2 = q.2)))) && (Cs.all fun C => decide (kitOne K (.ref C) (.ref E) = some true) && decide (kitOne K (.ref C) (.type "ValueError") = some true))
theorem kinds_kt {K : Frag} {E : Addr} {Cs : List Addr} (h : kindsB K E Cs = true) (i j : Nat) (C D : Addr) (h1 : Cs[i]? = some C) (h2 : Cs[j]? = some D) : kitOne K (.ref C) (.ref D) = some (decide (i = j)) := by
  obtain ⟨h, _⟩ := and2 h
  have q := List.all_eq_true.mp h (C, i) (List.mk_mem_zipIdx_iff_getElem?.mpr h1)
  have q := List.all_eq_true.mp q (D, j) (List.mk_mem_zipIdx_iff_getElem?.mpr h2)
  exact of_decide_eq_true q
theorem kinds_ke {K : Frag} {E : Addr} {Cs : List Addr} (h : kindsB K E Cs = true) (C : Addr) (hC : C ∈ Cs) : kitOne K (.ref C) (.ref E) = some true ∧ kitOne K (.ref C) (.type "ValueError") = some true := by
  obtain ⟨_, h⟩ := and2 h
  obtain ⟨a, b⟩ := and2 (List.all_eq_true.mp h C hC)
  exact ⟨of_decide_eq_true a, of_decide_eq_true b⟩
end EK

set_option Elab.async false
set_option linter.all false
set_option maxRecDepth 100000
set_option maxHeartbeats 4000000
namespace T34
open PySem L2 EK
theorem all_mk {l : PySem.W.OpenLaw} {w : World} {K : PySem.W.Frag} {h : Heap} {mg : Str → Option Value} {fa C1 i1 C2 i2 : Addr} {t1 : Tok} (X : K.In h) (G : h.Ns mainGlobals mg) (hfa : mg "law" = some (.ref fa))
    {fN : Addr} {odN anN : Option Addr} {slN : Array (Option Value)} {ocN kVN dcN pmN cdN ctN : Value}
    {fB : Addr} {odB anB : Option Addr} {slB : Array (Option Value)} {ocB kVB dcB pmB cdB ctB : Value}
    {fS : Addr} {odS anS : Option Addr} {slS : Array (Option Value)} {ocS kVS dcS pmS cdS ctS : Value}
    {fCN : Addr} {odCN anCN : Option Addr} {slCN : Array (Option Value)} {ocCN kVCN dcCN pmCN cdCN ctCN : Value}
    {fCB : Addr} {odCB anCB : Option Addr} {slCB : Array (Option Value)} {ocCB kVCB dcCB pmCB cdCB ctCB : Value}
    {fCL : Addr} {odCL anCL : Option Addr} {slCL : Array (Option Value)} {ocCL kVCL dcCL pmCL cdCL ctCL : Value}
    {fCS : Addr} {odCS anCS : Option Addr} {slCS : Array (Option Value)} {ocCS kVCS dcCS pmCS cdCS ctCS : Value}
    {fM : Addr} {odM anM : Option Addr} {slM : Array (Option Value)} {ocM kVM dcM pmM cdM ctM : Value}
    {fL : Addr} {odL anL : Option Addr} {slL : Array (Option Value)} {ocL kVL dcL pmL cdL ctL : Value}
    {fSN : Addr} {odSN anSN : Option Addr} {slSN : Array (Option Value)} {ocSN kVSN dcSN pmSN cdSN ctSN : Value}
    {fF : Addr} {odF anF : Option Addr} {slF : Array (Option Value)} {ocF kVF dcF pmF cdF ctF : Value}
    {fU : Addr} {odU anU : Option Addr} {slU : Array (Option Value)} {ocU kVU dcU pmU cdU ctU : Value}
    {fP : Addr} {odP anP : Option Addr} {slP : Array (Option Value)} {ocP kVP dcP pmP cdP ctP : Value}
    {fI : Addr} {odI anI : Option Addr} {slI : Array (Option Value)} {ocI kVI dcI pmI cdI ctI : Value}
    {fRW : Addr} {odRW anRW : Option Addr} {slRW : Array (Option Value)} {ocRW kVRW dcRW pmRW cdRW ctRW : Value}
    {fFR : Addr} {odFR anFR : Option Addr} {slFR : Array (Option Value)} {ocFR kVFR dcFR pmFR cdFR ctFR : Value}
    {fZ : Addr} {odZ anZ : Option Addr} {slZ : Array (Option Value)} {ocZ kVZ dcZ pmZ cdZ ctZ : Value}
    (T1 : ErrTxt l.prog K mg "NoNumber" "number" C1 i1) (T2 : ErrTxt l.prog K mg "NoSampling" "samples" C2 i2) 
    (aN : PySem.W.nsIn K mainGlobals "is_number" = some (some (.ref fN))) (lN : K.lookup fN = some ⟨ocN, odN, .func (PySem.W.fnOf "is_number" "is_number" (defArgs sIsNum) (defBody sIsNum) (defScope sIsNum) .none kVN dcN pmN anN cdN ctN), slN⟩) (cN : PySem.W.codeIn K cdN "is_number" = true) (kN : PySem.W.keepIn K (.ref fN) = true)
    (aB : PySem.W.nsIn K mainGlobals "is_number_between" = some (some (.ref fB))) (lB : K.lookup fB = some ⟨ocB, odB, .func (PySem.W.fnOf "is_number_between" "is_number_between" (defArgs sIsNB) (defBody sIsNB) (defScope sIsNB) .none kVB dcB pmB anB cdB ctB), slB⟩) (cB : PySem.W.codeIn K cdB "is_number_between" = true) (kB : PySem.W.keepIn K (.ref fB) = true)
    (aS : PySem.W.nsIn K mainGlobals "is_sampling" = some (some (.ref fS))) (lS : K.lookup fS = some ⟨ocS, odS, .func (PySem.W.fnOf "is_sampling" "is_sampling" (defArgs sIsSamp) (defBody sIsSamp) (defScope sIsSamp) .none kVS dcS pmS anS cdS ctS), slS⟩) (cS : PySem.W.codeIn K cdS "is_sampling" = true) (kS : PySem.W.keepIn K (.ref fS) = true)
    (aCN : PySem.W.nsIn K mainGlobals "check_number" = some (some (.ref fCN))) (lCN : K.lookup fCN = some ⟨ocCN, odCN, .func (PySem.W.fnOf "check_number" "check_number" (defArgs sCkN) (defBody sCkN) (defScope sCkN) .none kVCN dcCN pmCN anCN cdCN ctCN), slCN⟩) (cCN : PySem.W.codeIn K cdCN "check_number" = true) (kCN : PySem.W.keepIn K (.ref fCN) = true)
    (aCB : PySem.W.nsIn K mainGlobals "check_number_between" = some (some (.ref fCB))) (lCB : K.lookup fCB = some ⟨ocCB, odCB, .func (PySem.W.fnOf "check_number_between" "check_number_between" (defArgs sCkNB) (defBody sCkNB) (defScope sCkNB) .none kVCB dcCB pmCB anCB cdCB ctCB), slCB⟩) (cCB : PySem.W.codeIn K cdCB "check_number_between" = true) (kCB : PySem.W.keepIn K (.ref fCB) = true)
    (aCL : PySem.W.nsIn K mainGlobals "check_length" = some (some (.ref fCL))) (lCL : K.lookup fCL = some ⟨ocCL, odCL, .func (PySem.W.fnOf "check_length" "check_length" (defArgs sCkLen) (defBody sCkLen) (defScope sCkLen) .none kVCL dcCL pmCL anCL cdCL ctCL), slCL⟩) (cCL : PySem.W.codeIn K cdCL "check_length" = true) (kCL : PySem.W.keepIn K (.ref fCL) = true)
    (aCS : PySem.W.nsIn K mainGlobals "check_sampling" = some (some (.ref fCS))) (lCS : K.lookup fCS = some ⟨ocCS, odCS, .func (PySem.W.fnOf "check_sampling" "check_sampling" (defArgs sCkSamp) (defBody sCkSamp) (defScope sCkSamp) .none kVCS dcCS pmCS anCS cdCS ctCS), slCS⟩) (cCS : PySem.W.codeIn K cdCS "check_sampling" = true) (kCS : PySem.W.keepIn K (.ref fCS) = true)
    (aM : PySem.W.nsIn K mainGlobals "most_steps" = some (some (.ref fM))) (lM : K.lookup fM = some ⟨ocM, odM, .func (PySem.W.fnOf "most_steps" "most_steps" (defArgs sMost) (defBody sMost) (defScope sMost) .none kVM dcM pmM anM cdM ctM), slM⟩) (cM : PySem.W.codeIn K cdM "most_steps" = true) (kM : PySem.W.keepIn K (.ref fM) = true)
    (aL : PySem.W.nsIn K mainGlobals "least_samples" = some (some (.ref fL))) (lL : K.lookup fL = some ⟨ocL, odL, .func (PySem.W.fnOf "least_samples" "least_samples" (defArgs sLeast) (defBody sLeast) (defScope sLeast) .none kVL dcL pmL anL cdL ctL), slL⟩) (cL : PySem.W.codeIn K cdL "least_samples" = true) (kL : PySem.W.keepIn K (.ref fL) = true)
    (aSN : PySem.W.nsIn K mainGlobals "samplings_number" = some (some (.ref fSN))) (lSN : K.lookup fSN = some ⟨ocSN, odSN, .func (PySem.W.fnOf "samplings_number" "samplings_number" (defArgs sNumber) (defBody sNumber) (defScope sNumber) .none kVSN dcSN pmSN anSN cdSN ctSN), slSN⟩) (cSN : PySem.W.codeIn K cdSN "samplings_number" = true) (kSN : PySem.W.keepIn K (.ref fSN) = true)
    (aF : PySem.W.nsIn K mainGlobals "first_sampling" = some (some (.ref fF))) (lF : K.lookup fF = some ⟨ocF, odF, .func (PySem.W.fnOf "first_sampling" "first_sampling" (defArgs sFirst) (defBody sFirst) (defScope sFirst) .none kVF dcF pmF anF cdF ctF), slF⟩) (cF : PySem.W.codeIn K cdF "first_sampling" = true) (kF : PySem.W.keepIn K (.ref fF) = true)
    (aU : PySem.W.nsIn K mainGlobals "_law_urn" = some (some (.ref fU))) (lU : K.lookup fU = some ⟨ocU, odU, .func (PySem.W.fnOf "_law_urn" "_law_urn" (defArgs sUrn) (defBody sUrn) (defScope sUrn) .none kVU dcU pmU anU cdU ctU), slU⟩) (cU : PySem.W.codeIn K cdU "_law_urn" = true) (kU : PySem.W.keepIn K (.ref fU) = true)
    (aP : PySem.W.nsIn K mainGlobals "_law_pull" = some (some (.ref fP))) (lP : K.lookup fP = some ⟨ocP, odP, .func (PySem.W.fnOf "_law_pull" "_law_pull" (defArgs sPull) (defBody sPull) (defScope sPull) .none kVP dcP pmP anP cdP ctP), slP⟩) (cP : PySem.W.codeIn K cdP "_law_pull" = true) (kP : PySem.W.keepIn K (.ref fP) = true)
    (aI : PySem.W.nsIn K mainGlobals "_law_pick" = some (some (.ref fI))) (lI : K.lookup fI = some ⟨ocI, odI, .func (PySem.W.fnOf "_law_pick" "_law_pick" (defArgs sPick) (defBody sPick) (defScope sPick) .none kVI dcI pmI anI cdI ctI), slI⟩) (cI : PySem.W.codeIn K cdI "_law_pick" = true) (kI : PySem.W.keepIn K (.ref fI) = true)
    (aRW : PySem.W.nsIn K mainGlobals "_law_rows" = some (some (.ref fRW))) (lRW : K.lookup fRW = some ⟨ocRW, odRW, .func (PySem.W.fnOf "_law_rows" "_law_rows" (defArgs sRows) (defBody sRows) (defScope sRows) .none kVRW dcRW pmRW anRW cdRW ctRW), slRW⟩) (cRW : PySem.W.codeIn K cdRW "_law_rows" = true) (kRW : PySem.W.keepIn K (.ref fRW) = true)
    (aFR : PySem.W.nsIn K mainGlobals "_law_first_right" = some (some (.ref fFR))) (lFR : K.lookup fFR = some ⟨ocFR, odFR, .func (PySem.W.fnOf "_law_first_right" "_law_first_right" (defArgs sFirstRight) (defBody sFirstRight) (defScope sFirstRight) .none kVFR dcFR pmFR anFR cdFR ctFR), slFR⟩) (cFR : PySem.W.codeIn K cdFR "_law_first_right" = true) (kFR : PySem.W.keepIn K (.ref fFR) = true)
    (aZ : PySem.W.nsIn K mainGlobals "law" = some (some (.ref fZ))) (lZ : K.lookup fZ = some ⟨ocZ, odZ, .func (PySem.W.fnOf "law" "law" (defArgs sLaw) (defBody sLaw) (defScope sLaw) .none kVZ dcZ pmZ anZ cdZ ctZ), slZ⟩) (cZ : PySem.W.codeIn K cdZ "law" = true) (kZ : PySem.W.keepIn K (.ref fZ) = true)
    (y1 : PySem.W.nsIn K mainGlobals "MOST_LETTERS" = some (some (.int 300 t1))) (y2 : PySem.W.nsIn K mainGlobals "comb" = some (some (.builtin "math.comb")))
    (z1 : PySem.W.nsIn K mainGlobals "isinstance" = some none) (z2 : PySem.W.nsIn K mainGlobals "int" = some none) (z3 : PySem.W.nsIn K mainGlobals "bool" = some none) (z4 : PySem.W.nsIn K mainGlobals "tuple" = some none) (z5 : PySem.W.nsIn K mainGlobals "all" = some none) (z6 : PySem.W.nsIn K mainGlobals "len" = some none) (z7 : PySem.W.nsIn K mainGlobals "list" = some none) (z8 : PySem.W.nsIn K mainGlobals "sorted" = some none) (z9 : PySem.W.nsIn K mainGlobals "set" = some none) (z10 : PySem.W.nsIn K mainGlobals "range" = some none) (z11 : PySem.W.nsIn K mainGlobals "max" = some none) (z12 : PySem.W.nsIn K mainGlobals "min" = some none) (z13 : PySem.W.nsIn K mainGlobals "zip" = some none) (z14 : PySem.W.nsIn K mainGlobals "abs" = some none) :
    ∃ fd : FuncData, (∀ (s : Shared) (v : Value), BindsTo s fd ⟨[v], []⟩ [("_law_script", v)]) ∧ ∀ base : Heap, K.In base → base.Ns mainGlobals mg → FnOk l.prog w K mg base CX0 7 fa fd ["_law_script"] (spLaw K) := by
  have e := hfa.symm.trans (PySem.W.mg_of X G aZ)
  cases e
  have TU : TxtU K mg := ⟨PySem.W.mg_none_of X G z2, PySem.W.mg_none_of X G z14⟩
  have TC : TxtC K mg := ⟨PySem.W.mg_none_of X G z1, PySem.W.mg_none_of X G z2, PySem.W.mg_none_of X G z3, PySem.W.mg_none_of X G z4, PySem.W.mg_none_of X G z5, PySem.W.mg_none_of X G z6, PySem.W.mg_none_of X G z7, PySem.W.mg_none_of X G z8, PySem.W.mg_none_of X G z9, PySem.W.mg_none_of X G z10, PySem.W.mg_none_of X G z11, PySem.W.mg_none_of X G z12, PySem.W.mg_none_of X G z13, ⟨_, PySem.W.mg_of X G y1, ⟨_, rfl⟩⟩, PySem.W.mg_of X G y2⟩
  have FN := fun_mk (st := sIsNum) lN cN kN
  have FB := fun_mk (st := sIsNB) lB cB kB
  have FS := fun_mk (st := sIsSamp) lS cS kS
  have FCN := fun_mk (st := sCkN) lCN cCN kCN
  have FCB := fun_mk (st := sCkNB) lCB cCB kCB
  have FCL := fun_mk (st := sCkLen) lCL cCL kCL
  have FCS := fun_mk (st := sCkSamp) lCS cCS kCS
  have FM := fun_mk (st := sMost) lM cM kM
  have FL := fun_mk (st := sLeast) lL cL kL
  have FSN := fun_mk (st := sNumber) lSN cSN kSN
  have FF := fun_mk (st := sFirst) lF cF kF
  have FU := fun_mk (st := sUrn) lU cU kU
  have FP := fun_mk (st := sPull) lP cP kP
  have FI := fun_mk (st := sPick) lI cI kI
  have FRW := fun_mk (st := sRows) lRW cRW kRW
  have FFR := fun_mk (st := sFirstRight) lFR cFR kFR
  have FZ := fun_mk (st := sLaw) lZ cZ kZ
  have bN := FN.binds (ps := ["value", "least"]) fun _ _ _ _ _ _ us hl => match us, hl with | [_, _], _ => rfl
  have bB := FB.binds (ps := ["value", "least", "greatest"]) fun _ _ _ _ _ _ us hl => match us, hl with | [_, _, _], _ => rfl
  have bS := FS.binds (ps := ["value", "length"]) fun _ _ _ _ _ _ us hl => match us, hl with | [_, _], _ => rfl
  have bCN := FCN.binds (ps := ["number", "least"]) fun _ _ _ _ _ _ us hl => match us, hl with | [_, _], _ => rfl
  have bCB := FCB.binds (ps := ["number", "least", "greatest"]) fun _ _ _ _ _ _ us hl => match us, hl with | [_, _, _], _ => rfl
  have bCL := FCL.binds (ps := ["length"]) fun _ _ _ _ _ _ us hl => match us, hl with | [_], _ => rfl
  have bCS := FCS.binds (ps := ["samples", "length"]) fun _ _ _ _ _ _ us hl => match us, hl with | [_, _], _ => rfl
  have bM := FM.binds (ps := ["length", "samples"]) fun _ _ _ _ _ _ us hl => match us, hl with | [_, _], _ => rfl
  have bL := FL.binds (ps := ["length", "steps"]) fun _ _ _ _ _ _ us hl => match us, hl with | [_, _], _ => rfl
  have bSN := FSN.binds (ps := ["length", "steps"]) fun _ _ _ _ _ _ us hl => match us, hl with | [_, _], _ => rfl
  have bF := FF.binds (ps := ["length", "steps"]) fun _ _ _ _ _ _ us hl => match us, hl with | [_, _], _ => rfl
  have bU := FU.binds (ps := ["_law_cell"]) fun _ _ _ _ _ _ us hl => match us, hl with | [_], _ => rfl
  have bP := FP.binds (ps := ["_law_urn_here", "_law_many"]) fun _ _ _ _ _ _ us hl => match us, hl with | [_, _], _ => rfl
  have bI := FI.binds (ps := ["_law_urn_here", "_law_some"]) fun _ _ _ _ _ _ us hl => match us, hl with | [_, _], _ => rfl
  have bRW := FRW.binds (ps := ["_law_total", "_law_many", "_law_most"]) fun _ _ _ _ _ _ us hl => match us, hl with | [_, _, _], _ => rfl
  have bFR := FFR.binds (ps := ["_law_size", "_law_steps", "_law_samples"]) fun _ _ _ _ _ _ us hl => match us, hl with | [_, _, _], _ => rfl
  have gN := PySem.W.mg_of X G aN
  have gB := PySem.W.mg_of X G aB
  have gS := PySem.W.mg_of X G aS
  have gCN := PySem.W.mg_of X G aCN
  have gCB := PySem.W.mg_of X G aCB
  have gCL := PySem.W.mg_of X G aCL
  have gCS := PySem.W.mg_of X G aCS
  have gM := PySem.W.mg_of X G aM
  have gL := PySem.W.mg_of X G aL
  have gSN := PySem.W.mg_of X G aSN
  have gF := PySem.W.mg_of X G aF
  have gU := PySem.W.mg_of X G aU
  have gP := PySem.W.mg_of X G aP
  have gI := PySem.W.mg_of X G aI
  have gRW := PySem.W.mg_of X G aRW
  have gFR := PySem.W.mg_of X G aFR
  have gZ := PySem.W.mg_of X G aZ
  refine ⟨PySem.W.fnOf "law" "law" (defArgs sLaw) (defBody sLaw) (defScope sLaw) .none kVZ dcZ pmZ anZ cdZ ctZ, fun s v => .of_eq rfl, fun base _ _ => ?_⟩
  have GN : FnOk l.prog w K mg base CX0 1 fN _ ["value", "least"] (spNumber) := ok_isNumber FN TC
  have GB : FnOk l.prog w K mg base CX0 2 fB _ ["value", "least", "greatest"] (spNB) := ok_isNB FB GN gN kN bN
  have GS : FnOk l.prog w K mg base CX0 3 fS _ ["value", "length"] (spSamp) := ok_isSamp FS TC GB gB kB bB
  have GCN : FnOk l.prog w K mg base (L2.CX l.prog w) 3 fCN _ ["number", "least"] (spCkN C1) := ok_ckN FCN T1 GN gN kN bN
  have GCB : FnOk l.prog w K mg base (L2.CX l.prog w) 3 fCB _ ["number", "least", "greatest"] (spCkNB C1) := ok_ckNB FCB T1 GB gB kB bB
  have GCL : FnOk l.prog w K mg base (L2.CX l.prog w) 4 fCL _ ["length"] (spCkLen C1) := ok_ckLen FCL TC GCB gCB kCB bCB
  have GCS : FnOk l.prog w K mg base (L2.CX l.prog w) 4 fCS _ ["samples", "length"] (spCkSamp C2) := ok_ckSamp FCS T2 GS gS kS bS
  have GM : FnOk l.prog w K mg base (L2.CX l.prog w) 5 fM _ ["length", "samples"] (spMost C1 C2) := ok_most FM TC GCL gCL kCL bCL GCS gCS kCS bCS
  have GL : FnOk l.prog w K mg base (L2.CX l.prog w) 5 fL _ ["length", "steps"] (spLeast C1) := ok_least FL GCL gCL kCL bCL GCN gCN kCN bCN
  have GSN : FnOk l.prog w K mg base (L2.CX l.prog w) 6 fSN _ ["length", "steps"] (spNum C1) := ok_number FSN TC GCL gCL kCL bCL GCN gCN kCN bCN GL gL kL bL
  have GF : FnOk l.prog w K mg base (L2.CX l.prog w) 6 fF _ ["length", "steps"] (spFirst C1) := ok_first FF TC GCL gCL kCL bCL GCN gCN kCN bCN GL gL kL bL
  have GU : FnOk l.prog w K mg base CX0 1 fU _ ["_law_cell"] (spUrn) := ok_urn FU TU
  have GP : FnOk l.prog w K mg base CX0 1 fP _ ["_law_urn_here", "_law_many"] (spPull) := ok_pull FP TU
  have GI : FnOk l.prog w K mg base CX0 2 fI _ ["_law_urn_here", "_law_some"] (spPick) := ok_pick FI TC GP gP kP bP
  have GRW : FnOk l.prog w K mg base CX0 1 fRW _ ["_law_total", "_law_many", "_law_most"] (spRows) := ok_rows FRW TC
  have GFR : FnOk l.prog w K mg base CX0 6 fFR _ ["_law_size", "_law_steps", "_law_samples"] (spFR) := ok_firstRight FFR TC GM gM kM bM
  exact ok_law FZ TC GU gU kU bU GP gP kP bP GI gI kI bI GL gL kL bL GSN gSN kSN bSN GF gF kF bF GRW gRW kRW bRW GFR gFR kFR bFR
theorem walk {l : PySem.W.OpenLaw} {q : Program} {loose : List Str} {XP : (Str → Option Value) → Heap → Prop} {YP : World → Heap → Prop} {d : DefRec} {K : Params → PySem.W.Frag} (hn : l.most = some 63) (hdf : d.params.defaults = [])
    (hY : ∀ (w : World) (h : Heap), YP w h → (K w.params).In h)
    (F : ∀ (w : World) (mg : Str → Option Value) (fa : Addr) (h : Heap), (K w.params).In h → h.Ns mainGlobals mg → mg d.name = some (.ref fa) →
      ∃ fd : FuncData, (∀ (s : Shared) (u : Value), BindsTo s fd ⟨[u], []⟩ [("_law_script", u)]) ∧ ∀ base : Heap, (K w.params).In base → base.Ns mainGlobals mg → FnOk l.prog w (K w.params) mg base CX0 7 fa fd ["_law_script"] (spLaw (K w.params))) :
    PySem.W.WalkO q loose XP YP l.row.toRowW d [] (fun f vs => PySem.call f vs) :=
  L2.walk_of (n := 63) (k := 7) (x := "_law_script") (CX := fun _ => CX0) (sp := fun w => spLaw (K w.params)) hn (by decide) hdf ⟨rfl, by decide, by decide⟩ hY F (fun _ _ a ns hl _ hS => ⟨a, ns, rfl, hS, hl, fun _ => rfl⟩) fun _ _ _ _ _ z => z
end T34
open PySem PySem.W PyProof.Rows
set_option maxRecDepth 100000 in
set_option maxHeartbeats 0 in
theorem PySem.Challenge.cw_turnindex_k34_whole_great_samplings_holds : PySem.Challenge.rw_turnindex_k34_whole_great_samplings.Holds := by
  w_on; o_law; k_head; (case hw => w_witness2)
  k_fill
  refine T34.walk (l := PySem.Challenge.rw_turnindex_k34_whole_great_samplings) rfl rfl (fun w h Y => PySem.W.kIn_of Y) ?F
  case F =>
    intro w mg fa h KX G hmg
    refine' T34.all_mk KX G hmg (EK.err_mk (x := "NoNumber") (f := "number") KX G ?aC1 ?xL1 ?rv1 ?iC1 ?l11 ?c11 ?bd1 ?sc1 ?cd1 ?vf1 ?pf1 ?cL1 ?eB1 ?ho1 ?su1 ?fok1 ?top1) (EK.err_mk (x := "NoSampling") (f := "samples") KX G ?aC2 ?xL2 ?rv2 ?iC2 ?l12 ?c12 ?bd2 ?sc2 ?cd2 ?vf2 ?pf2 ?cL2 ?eB2 ?ho2 ?su2 ?fok2 ?top2)  ?paN ?plN ?pcN ?pkN ?paB ?plB ?pcB ?pkB ?paS ?plS ?pcS ?pkS ?paCN ?plCN ?pcCN ?pkCN ?paCB ?plCB ?pcCB ?pkCB ?paCL ?plCL ?pcCL ?pkCL ?paCS ?plCS ?pcCS ?pkCS ?paM ?plM ?pcM ?pkM ?paL ?plL ?pcL ?pkL ?paSN ?plSN ?pcSN ?pkSN ?paF ?plF ?pcF ?pkF ?paU ?plU ?pcU ?pkU ?paP ?plP ?pcP ?pkP ?paI ?plI ?pcI ?pkI ?paRW ?plRW ?pcRW ?pkRW ?paFR ?plFR ?pcFR ?pkFR ?paZ ?plZ ?pcZ ?pkZ ?y1 ?y2 ?z1 ?z2 ?z3 ?z4 ?z5 ?z6 ?z7 ?z8 ?z9 ?z10 ?z11 ?z12 ?z13 ?z14
    (case aC1 => k_is); (case xL1 => k_is); (case rv1 => kernel_rfl); (case iC1 => k_is); (case l11 => k_is); (case c11 => k_is); (case bd1 => exact fun _ _ => rfl); (case sc1 => exact fun L => ⟨_, rfl⟩); (case cd1 => k_is); (case vf1 => rfl); (case pf1 => kernel_rfl); (case cL1 => k_is); (case eB1 => kernel_rfl); (case ho1 => k_is); (case su1 => k_is); (case fok1 => exact ⟨by decide +kernel, by decide +kernel, by decide +kernel, by decide +kernel⟩); (case top1 => kernel_rfl)
    (case aC2 => k_is); (case xL2 => k_is); (case rv2 => kernel_rfl); (case iC2 => k_is); (case l12 => k_is); (case c12 => k_is); (case bd2 => exact fun _ _ => rfl); (case sc2 => exact fun L => ⟨_, rfl⟩); (case cd2 => k_is); (case vf2 => rfl); (case pf2 => kernel_rfl); (case cL2 => k_is); (case eB2 => kernel_rfl); (case ho2 => k_is); (case su2 => k_is); (case fok2 => exact ⟨by decide +kernel, by decide +kernel, by decide +kernel, by decide +kernel⟩); (case top2 => kernel_rfl)
    (case paN => k_is); (case plN => k_is); (case pcN => k_is); (case pkN => k_is)
    (case paB => k_is); (case plB => k_is); (case pcB => k_is); (case pkB => k_is)
    (case paS => k_is); (case plS => k_is); (case pcS => k_is); (case pkS => k_is)
    (case paCN => k_is); (case plCN => k_is); (case pcCN => k_is); (case pkCN => k_is)
    (case paCB => k_is); (case plCB => k_is); (case pcCB => k_is); (case pkCB => k_is)
    (case paCL => k_is); (case plCL => k_is); (case pcCL => k_is); (case pkCL => k_is)
    (case paCS => k_is); (case plCS => k_is); (case pcCS => k_is); (case pkCS => k_is)
    (case paM => k_is); (case plM => k_is); (case pcM => k_is); (case pkM => k_is)
    (case paL => k_is); (case plL => k_is); (case pcL => k_is); (case pkL => k_is)
    (case paSN => k_is); (case plSN => k_is); (case pcSN => k_is); (case pkSN => k_is)
    (case paF => k_is); (case plF => k_is); (case pcF => k_is); (case pkF => k_is)
    (case paU => k_is); (case plU => k_is); (case pcU => k_is); (case pkU => k_is)
    (case paP => k_is); (case plP => k_is); (case pcP => k_is); (case pkP => k_is)
    (case paI => k_is); (case plI => k_is); (case pcI => k_is); (case pkI => k_is)
    (case paRW => k_is); (case plRW => k_is); (case pcRW => k_is); (case pkRW => k_is)
    (case paFR => k_is); (case plFR => k_is); (case pcFR => k_is); (case pkFR => k_is)
    (case paZ => k_is); (case plZ => k_is); (case pcZ => k_is); (case pkZ => k_is)
    (case y1 => k_is)
    (case y2 => k_is)
    (case z1 => k_is); (case z2 => k_is); (case z3 => k_is); (case z4 => k_is); (case z5 => k_is); (case z6 => k_is); (case z7 => k_is); (case z8 => k_is); (case z9 => k_is); (case z10 => k_is); (case z11 => k_is); (case z12 => k_is); (case z13 => k_is); (case z14 => k_is)
