import PyProof.Rows.All
import Wide.All
import OpenK.AllK
import Wide.FinOn
import KE.KExcSuper
import HandS.ForMost
import HandS.Exc
import HandS.ExcInit
import HandS.ExcField
import HandS.ExcValue
import HandS.Style
import HandS.Walk
import HandS.IsInst
import HandS.More
import KE.KExcIs
import PyProof.NeKinds
import KE.KEqDict
import HandS.ExcIs
import HandS.Strs
import PyProof.StrWalks
import PyProof.StrBlock2
import PyProof.FitsStr
import HandS.Comp
import HandS.Words
import HandS.Codes
import HandS.Conv
import HandS.Iter
import HandS.SetFor
import HandS.Zip
import PyProof.Rows.ChunkLeaf
import KE.SortData
import KE.DataMinMax
import KE.KEqSeq
import HandS.TupAny
import HandS.DictSubView
import HandS.Sort
import HandS.Gcd
import HandS.Wide
import KE.KDictList
import KE.KMathGC
import HandS.TryMany
import HandS.Lambda
import HandS.EndTab
import HandS.Text
import HandS.Nested
import KE.SortKeyHeap
import KE.KSortKey
import PyProof.SliceStr2
import HandS.SortInts
import PyProof.Draws
import PyProof.EnumMake
import KE.GoesMore
import HandS.Keys
import HandS.WordsExc
import HandS.StrMore
import HandS.WordsDict
import PyProof.ListStr
import KE.KNestM
import PySem.Challenge.RW_turnindex_k23_whole_great_orders
set_option Elab.async false
set_option linter.all false
set_option maxRecDepth 100000
set_option maxHeartbeats 4000000
/-! ErrKit: an error class of the program: __init__ says super().__init__(text), then keeps its one value. -/
namespace EK
open PySem PySem.W PySem.Calls PyProof.Rows PySem.HandSPX L2
/-! ### the text of such an __init__ -/
def eArgs (f : Str) (p1 p2 : Pos) : Arguments := { posonlyargs := [], args := [{ arg := "self", annotation := none, pos := p1 }, { arg := f, annotation := none, pos := p2 }], vararg := none, kwonlyargs := [], kw_defaults := [], kwarg := none, defaults := [] }
def eBody (f msg : Str) (a1 a2 a3 a4 a5 a6 b1 b2 b3 b4 : Pos) : List Stmt :=
  [.Expr (.Call (.Attribute (.Call (.Name "super" a1) [] [] a2) "__init__" a3) [.Constant (.str msg) 0 a4] [] a5) a6, .Assign [.Attribute (.Name "self" b1) f b2] (.Name f b3) b4]
def eScope (f : Str) : Scope := { kind := .function, names := [(PySem.Str.ofString "self", .local), (f, .local), (PySem.Str.ofString "__class__", .free), (PySem.Str.ofString "super", .globalImplicit)], isGenerator := false, isCoroutine := false, more := [] }

/-- the row super().__init__(msg) of the text, as a call of a method -/
def SupCall (a1 a2 a3 a4 a5 : Pos) (msg : Str) (env : Env) : Prop := ∃ pl : Sem Bool,
  eval (.Call (.Attribute (.Call (.Name "super" a1) [] [] a2) "__init__" a3) [.Constant (.str msg) 0 a4] [] a5) env = (do
    let ov ← attributeBase (.Call (.Name "super" a1) [] [] a2) "__init__" env (eval (.Call (.Name "super" a1) [] [] a2) env)
    standAt a3.atName
    let (g, first) ← holding [ov] (getMethod ov "__init__" pl)
    callWith a5 g first (backTo a5 (starEach [.Constant (.str msg) 0 a4] env)) [])
/-- what the top has written of the class x at C, of its __init__ at fI -/
structure ErrTxt (P : Program) (K : Frag) (mg : Str → Option Value) (x f : Str) (C fI : Addr) : Prop where
  gC : mg x = some (.ref C)
  cls : ∃ nm q N bs bm sn sub ab col dd k0 k1 k2 k3 k5, K.lookup C = some (excClassObj nm q C N bs bm true sn sub ab col dd k0 k1 k2 k3 k5 "ValueError.__new__") ∧ refsVE bm = true
  sa : findIn K (.ref C) "__setattr__" = some (some (.builtin "object.__setattr__"))
  ga : findIn K (.ref C) "__getattribute__" = some (some (.builtin "BaseException.__getattribute__"))
  gg : findIn K (.ref C) "__getattr__" = some none
  noN : findIn K (.ref C) f = some none
  iC : findIn K (.ref C) "__init__" = some (some (.ref fI))
  tC : typeIn K (.ref fI) = some (.type "function")
  kC : keepIn K (.ref C) = true
  exC : subIn K (.ref C) (.type "BaseException") = some true
  tyC : typeIn K (.ref C) = some (.type "type")
  hdC : hasDictIn K C = true
  te : exmOne K (.ref C) (.ref C) = some true
  hB : subIn K (.ref C) (.type "ValueError") = some true
  si : ks_superIn K C C "__init__" = some (some (.builtin "ValueError.__init__"))
  ho : nsIn K cStatics "thirdparty.any" = some none
  su : mg "super" = none
  mC : mroIn K C (.ref C) = some true
  fok : f ≠ "self" ∧ f ≠ "__class__" ∧ f ≠ "super" ∧ f ≠ "__debug__"
  top : (P.main.scope.names.lookup ("super" : Str)).isSome = false
  fn : ∃ (oc : Value) (od : Option Addr) (qn msg : Str) (doc pm : Value) (an : Option Addr) (cda cc : Addr) (ct : Value) (osl : Array (Option Value)) (p1 p2 a1 a2 a3 a4 a5 a6 b1 b2 b3 b4 : Pos),
    K.lookup fI = some ⟨oc, od, .func (ksFn "__init__" qn (eArgs f p1 p2) (eBody f msg a1 a2 a3 a4 a5 a6 b1 b2 b3 b4) (eScope f) .none .none doc pm an (.ref cda) ct cc), osl⟩ ∧ codeIn K (.ref cda) qn = true ∧
    (∀ u v : Value, bindArgs (ksFn "__init__" qn (eArgs f p1 p2) (eBody f msg a1 a2 a3 a4 a5 a6 b1 b2 b3 b4) (eScope f) .none .none doc pm an (.ref cda) ct cc) ⟨[u, v], []⟩ = pure [(("self" : Str), u), (f, v)]) ∧
    (∀ L : Addr, SupCall a1 a2 a3 a4 a5 msg (callEnv (ksFn "__init__" qn (eArgs f p1 p2) (eBody f msg a1 a2 a3 a4 a5 a6 b1 b2 b3 b4) (eScope f) .none .none doc pm an (.ref cda) ct cc) L fI)) ∧
    (∃ (ccl : Value) (cdd : Option Addr) (ccs : Array (Option Value)) (vs : Array Value) (file : Str) (tf : Tok), K.lookup cda = some ⟨ccl, cdd, .fields vs, ccs⟩ ∧ vs[2]? = some (.str file tf) ∧ ((P.main.file : Str) == file) = true) ∧
    ∃ (cl : Value) (cld : Option Addr) (csl : Array (Option Value)), K.lookup cc = some ⟨cl, cld, .cell (some (.ref C)), csl⟩
theorem one_size (v : Value) : [v].length ≤ sizeLine := by
  rw [sizeLine_eq]
  exact (by decide : 1 ≤ 16777216)
/-- what __init__ leaves of the exception at y -/
structure MadeI (h h' : Heap) (y C dx : Addr) (f : Str) (v : Value) : Prop where
  keep : ∀ b o, b ≠ y → h.get? b = some o → h'.get? b = some o
  obj : ∃ t1 : Addr, h'.get? y = some { cls := .ref C, dict := some dx, data := .fields #[.ref t1, .none, .none, .none, .bool false, .none] }
  dbig : h.objs.size ≤ dx
  dne : dx ≠ y
  ns : h'.Ns1 dx (fun z => if z = f then some v else none)
theorem kept_but {K : Frag} {h h' : Heap} {x : Addr} (X : K.In h) (hx : K.lookup x = none) (k : ∀ b o, b ≠ x → h.get? b = some o → h'.get? b = some o) : K.In h' := fun a o e =>
  k a o (fun z => by rw [z, hx] at e; cases e) (X a o e)
section
variable {prog : Program} {w : World} {A : Around} {E : Value → Shared → Prop} {R : Result → Shared → Prop} {s : Shared} {K : Frag} {mg : Str → Option Value} {C fI : Addr} {x f : Str}
/-- the method-wrapper that super().__init__ gives is called -/
theorem call_mw {u e t0 : Addr} {rest : List Value} {nm q : Str} {C N : Addr} {bs bm : List Value} {hdct : Bool} {sn : List Str} {sub : List Value} {ab : Bool} {col : Option Bool} {dd : Option Addr} {k0 k1 k2 k3 k5 : Option Value} {Q : Value → Shared → Prop}
    (hC : s.heap.get? C = some (excClassObj nm q C N bs bm hdct sn sub ab col dd k0 k1 k2 k3 k5 "ValueError.__new__")) (he : s.heap.get? e = some (excO C t0)) (hu : s.heap.get? u = some (kxs_mw "ValueError.__init__" e)) (hrest : rest.length ≤ sizeLine)
    (hq : ∀ h' t1, (∀ b o, b ≠ e → s.heap.get? b = some o → h'.get? b = some o) → h'.get? e = some (excO C t1) → Q .none { s with heap := h' }) :
    wpAny (model prog w) A (call (.ref u) rest) Q E s := by
  obtain ⟨hh, g, d, tk, os⟩ := s
  refine wpAny_call (codeAny_of_tree ?_)
  show wpAny _ A.in1 (callAny (.ref u) ⟨rest, []⟩) _ _ _
  simp only [callAny]
  refine wpAny_bind (wpAny_load hu ?_)
  simp only [kxs_mw, show (Value.type "method-wrapper" == Value.type "method" || Value.type "method-wrapper" == Value.type "builtin_function_or_method" || Value.type "method-wrapper" == Value.type "method-wrapper") = true by decide, if_true]
  refine KFB.if_so (by decide) ?_
  refine wpAny_bind (check_bound_init F.excBase_ValueError.toExcCallFacts hC he rfl ?_)
  refine wpAny_bind (wpAny_pure (wpAny_pure ?_))
  refine ⟨plainId_quiet F.excBase_ValueError.init.plain _, codeAny_builtin F.excBase_ValueError.initEntry ?_⟩
  exact exc_init_tree (cls := .ref C) (t0 := t0) (dv := none) (c2 := .none) (c3 := .none) (b4 := .bool false) he hrest fun h' k o _ => hq h' _ k o
theorem look_self (f : Str) : (eScope f).names.lookup ("self" : Str) = some .local := by
  show List.lookup ("self" : Str) ((("self" : Str), NameKind.local) :: _) = _
  rw [List.lookup_cons]
  simp
theorem look_f {f : Str} (h : f ≠ "self") : (eScope f).names.lookup f = some .local := by
  have e : (f == ("self" : Str)) = false := by simpa using h
  show List.lookup f ((("self" : Str), NameKind.local) :: (f, NameKind.local) :: _) = _
  rw [List.lookup_cons, e, List.lookup_cons]
  simp
theorem look_cls {f : Str} (h : f ≠ "__class__") : (eScope f).names.lookup ("__class__" : Str) = some .free := by
  have e : ((("__class__" : Str)) == f) = false := by simpa using Ne.symm h
  have e2 : ((("__class__" : Str)) == ("self" : Str)) = false := by decide +kernel
  show List.lookup ("__class__" : Str) ((("self" : Str), NameKind.local) :: (f, NameKind.local) :: (("__class__" : Str), NameKind.free) :: _) = _
  rw [List.lookup_cons, e2, List.lookup_cons, e, List.lookup_cons]
  simp
theorem look_super {f : Str} (h : f ≠ "super") : (eScope f).names.lookup ("super" : Str) = some .globalImplicit := by
  have e : ((("super" : Str)) == f) = false := by simpa using Ne.symm h
  have e2 : ((("super" : Str)) == ("self" : Str)) = false := by decide +kernel
  have e3 : ((("super" : Str)) == ("__class__" : Str)) = false := by decide +kernel
  show List.lookup ("super" : Str) ((("self" : Str), NameKind.local) :: (f, NameKind.local) :: (("__class__" : Str), NameKind.free) :: (("super" : Str), NameKind.globalImplicit) :: []) = _
  rw [List.lookup_cons, e2, List.lookup_cons, e, List.lookup_cons, e3, List.lookup_cons]
  simp
theorem bl_self {f : Str} (h : f ≠ "self") (a v : Value) : List.lookup ("self" : Str) ([(("self" : Str), a), (f, v)].reverse) = some a := by
  have e : ((("self" : Str)) == f) = false := by simpa using Ne.symm h
  show List.lookup ("self" : Str) ((f, v) :: (("self" : Str), a) :: []) = _
  rw [List.lookup_cons, e, List.lookup_cons]
  simp
theorem bl_f {f : Str} (a v : Value) : List.lookup f ([(("self" : Str), a), (f, v)].reverse) = some v := by
  show List.lookup f ((f, v) :: (("self" : Str), a) :: []) = _
  rw [List.lookup_cons]
  simp
theorem err_init (T : ErrTxt prog K mg x f C fI) {y t0 : Addr} {v : Value} (X : K.In s.heap) (hlim : s.heap.NoLimit) (hg : s.heap.Ns mainGlobals mg) (hb : ∃ mb, s.heap.Ns builtinsNs mb ∧ ∀ z : Str, z ≠ "__name__" → mb z = bootBuiltins z)
    (hx : s.heap.get? y = some (excO C t0)) (hnx : K.lookup y = none) (hroom : A.depth < recursionLimit)
    (hq : ∀ h' tk dx, MadeI s.heap h' y C dx f v → R (.ok (.ret .none)) { s with heap := h', toks := tk }) :
    codeAny (model prog w) A (.call (.ref fI) ⟨[.ref y, v], []⟩) R s := by
  obtain ⟨oc, od, qn, msg, doc, pm, an, cda, cc, ct, osl, p1, p2, a1, a2, a3, a4, a5, a6, b1, b2, b3, b4, ho, hcd, hB, hS, ⟨ccl, cdd, ccs, vs, file, tf, hcda, hvs, hfile⟩, ⟨cl, cld, csl, hcell⟩⟩ := T.fn
  obtain ⟨nm, q, N, bs, bm, sn, sub, ab, col, dd, k0, k1, k2, k3, k5, hC, hbm⟩ := T.cls
  obtain ⟨mb, hbn, hbv⟩ := hb
  obtain ⟨hf1, hf2, hf3, hf4⟩ := T.fok
  have hcl : clsIn K C = some { name := nm, bases := bs, mro := .ref C :: bm, ns := N, qualname := q, hasDict := true, slotNames := sn, subclasses := sub, abstract := ab, collection := col, hasDel := false } := by unfold clsIn; rw [hC] <;> rfl
  refine ks_codeAny_call_defAt (fd := ksFn "__init__" qn (eArgs f p1 p2) (eBody f msg a1 a2 a3 a4 a5 a6 b1 b2 b3 b4) (eScope f) .none .none doc pm an (.ref cda) ct cc) (body := eBody f msg a1 a2 a3 a4 a5 a6 b1 b2 b3 b4) (binds := [(("self" : Str), Value.ref y), (f, v)]) hroom (X _ _ ho) rfl hlim (codeRec_of X hcd) rfl (BindsTo.of_eq (hB _ _)) ?_ ?_ (fun h₁ hns k => ?_) rfl rfl rfl
  · intro z hz
    rcases List.mem_cons.mp hz with rfl | hz
    · exact fun e => nomatch e
    rcases List.mem_cons.mp hz with rfl | hz
    · exact fun e => nomatch e
    rcases List.mem_cons.mp hz with rfl | hz
    · exact fun e => nomatch e
    rcases List.mem_cons.mp hz with rfl | hz
    · exact fun e => nomatch e
    · cases hz
  · intro z hz
    rcases List.mem_cons.mp hz with rfl | hz
    · exact look_self f
    rcases List.mem_cons.mp hz with rfl | hz
    · exact look_f hf1
    · cases hz
  · have X₁ : K.In h₁ := X.keeps k
    have hyL : s.heap.objs.size ≠ y := Nat.ne_of_gt (Heap.lt_size hx)
    have ks : (callEnv (ksFn "__init__" qn (eArgs f p1 p2) (eBody f msg a1 a2 a3 a4 a5 a6 b1 b2 b3 b4) (eScope f) .none .none doc pm an (.ref cda) ct cc) s.heap.objs.size fI).kindOf "super" = some .globalImplicit := look_super hf3
    obtain ⟨oD, hD⟩ : ∃ oD, h₁.get? C = some oD ∧ ∃ cd : ClassData, oD.data = .cls cd := ⟨_, X₁ _ _ hC, _, rfl⟩
    obtain ⟨hD1, cdD, hD2⟩ := hD
    have IY : ∀ {h : Heap}, h.get? y = some (excO C t0) → InstAt h y (excO C t0) C none := fun e => ⟨e, rfl, rfl, trivial⟩
    have hyC : y ≠ C := fun z => by rw [z, hC] at hnx; cases hnx
    obtain ⟨pl, hpl⟩ := hS s.heap.objs.size
    refine ks_wpAt_execs_cons (ks_wpAt_Expr_any (ks_wpAt_MethodCall ?_ hpl) (by rfl) (by rfl))
    refine ks_wpAt_super_base ks (look_cls hf2) (by decide +kernel) rfl (X₁ _ _ ho) rfl rfl rfl (X₁ _ _ hcda) rfl hvs hfile T.top ?_
    refine ks_loadName_global rfl ks (loadGlobal_builtin (hg.keeps k) T.su (hbn.keeps k) (hbv _ (by decide +kernel)) ⟨by rfl, ?_⟩)
    refine wpAny_loadName_free rfl (look_cls hf2) rfl ⟨_, X₁ _ _ hcell, rfl⟩ ?_
    refine wpAny_loadName_local rfl (look_self f) hns (bl_self hf1 _ _) ?_
    refine ks_wpAny_isType_cls hD1 hD2 ⟨rfl, ?_⟩
    refine ks_wpAny_call_super hD1 hD2 (k _ _ hx) rfl (fun c e => nomatch e) (looks_mroIn X₁ T.mC) (fun h2 hso k2 => ?_)
    have X2 : K.In h2 := X₁.keeps k2
    refine kxs_getMethod kxs_ValueError hso (looks_opaque X2 T.ho) (l₀ := .ref C :: bm) ((looks_clsIn X2 hcl).andThen .now) rfl X2 ?_ ((IY (k2 _ _ (k _ _ hx))).type.andThen (looks_subIn X2 T.hB)) hyC (by decide +kernel) ?_
    · have e := T.si
      unfold ks_superIn at e
      rw [hcl] at e
      exact e
    have k3 : ∀ b o, h2.get? b = some o → (h2.push (kxs_mw "ValueError.__init__" y)).get? b = some o := fun b o e => Heap.get?_push_of_some _ e
    have hu : (h2.push (kxs_mw "ValueError.__init__" y)).get? h2.objs.size = some (kxs_mw "ValueError.__init__" y) := Heap.get?_push_at rfl rfl
    refine kxs_callWith (i := "ValueError.__init__") (x := y) (by rfl) (evalArgs_plain (Calls.spliced_cons (Calls.Constant_str (k := 0) (pos := a4) (Calls.spliced_nil ⟨hu, ?_⟩))))
    refine call_mw (X2.keeps k3 _ _ hC) (k3 _ _ (k2 _ _ (k _ _ hx))) hu (one_size _) fun h4 t1 k4 hy4 => ?_
    have X4 : K.In h4 := kept_but (X2.keeps k3) hnx k4
    have kk : ∀ b o, b ≠ y → h₁.get? b = some o → h4.get? b = some o := fun b o n e => k4 b o n (k3 b o (k2 b o e))
    have n4 : h4.Ns s.heap.objs.size fun z => [(("self" : Str), Value.ref y), (f, v)].reverse.lookup z := by
      obtain ⟨o, es, ep, e1, r⟩ := hns
      exact ⟨o, es, ep, kk _ _ hyL e1, r⟩
    have hfd : (f == ("__debug__" : Str)) = false := by simpa using hf4
    refine wpAt_of_wpAny (wpAny_execs_cons (plainObj_wpAny_Assign_Attribute ?_))
    refine wpAny_Name (wpAny_loadName_local rfl (look_f hf1) n4 (bl_f _ _) ?_) hfd
    refine wpAny_Name (wpAny_loadName_local rfl (look_self f) n4 (bl_self hf1 _ _) ?_) (by decide +kernel)
    refine set_plain X4 (ox := excO C t1) (od := none) ⟨hy4, rfl, rfl, trivial⟩ T.sa ?_
    refine exc_osa X4 hy4 hcl (show refsVE (.ref C :: bm) = true from hbm) rfl T.noN (fun h5 tk5 dx k5 dn dne hx5 hn5 => ?_)
    refine wpAny_execs_nil (hq h5 tk5 dx ⟨fun b o hb e => k5 b o hb (kk b o hb (k b o e)), ⟨_, hx5⟩, ?_, dne, hn5⟩)
    have z1 : s.heap.objs.size < h4.objs.size := n4.lt
    exact Nat.le_of_lt (Nat.lt_of_lt_of_le z1 dn)
/-- an error that was made: the object at e, its own dict at d -/
structure MadeE (h h' : Heap) (e C d : Addr) (f : Str) (v : Value) : Prop where
  keep : ∀ b o, h.get? b = some o → h'.get? b = some o
  new : h.objs.size ≤ e
  obj : ∃ t1 : Addr, h'.get? e = some { cls := .ref C, dict := some d, data := .fields #[.ref t1, .none, .none, .none, .bool false, .none] }
  dbig : h.objs.size ≤ d
  dne : d ≠ e
  ns : h'.Ns1 d (fun z => if z = f then some v else none)
theorem not_in {K : Frag} {h : Heap} {a : Addr} (X : K.In h) (ha : h.objs.size ≤ a) : K.lookup a = none := by
  cases e : K.lookup a with
  | none => rfl
  | some o => exact absurd (Nat.lt_of_lt_of_le (Heap.lt_size (X _ _ e)) ha) (Nat.lt_irrefl _)
theorem err_made (T : ErrTxt prog K mg x f C fI) {v : Value} (X : K.In s.heap) (hlim : s.heap.NoLimit) (hg : s.heap.Ns mainGlobals mg) (hb : ∃ mb, s.heap.Ns builtinsNs mb ∧ ∀ z : Str, z ≠ "__name__" → mb z = bootBuiltins z)
    (hroom : A.depth + 1 < recursionLimit) (hq : ∀ h' tk e d, MadeE s.heap h' e C d f v → R (.ok (.ret (.ref e))) { s with heap := h', toks := tk }) :
    codeAny (model prog w) A (.call (.ref C) ⟨[v], []⟩) R s := by
  obtain ⟨nm, q, N, bs, bm, sn, sub, ab, col, dd, k0, k1, k2, k3, k5, hC, hbm⟩ := T.cls
  obtain ⟨mb, hbn, hbv⟩ := hb
  obtain ⟨hp, g, dr, tk, os⟩ := s
  have k : ∀ b o, hp.get? b = some o → ((hp.push (kdv_tup [v])).push (excO C hp.objs.size)).get? b = some o := fun b o e => Heap.get?_push_of_some _ (Heap.get?_push_of_some _ e)
  have hget : ((hp.push (kdv_tup [v])).push (excO C hp.objs.size)).get? (hp.objs.size + 1) = some (excO C hp.objs.size) := by heap_get
  have hnx : K.lookup (hp.objs.size + 1) = none := not_in X (Nat.le_succ _)
  refine call_own F.excBase_ValueError (fun X => refsVE_contains X bm hbm) (X _ _ hC) (looks_findIn X T.iC) (fun self => bind_fn X self T.tC) (one_size v) ?_
  refine err_init (s := ⟨(hp.push (kdv_tup [v])).push (excO C hp.objs.size), g, dr, tk, os⟩) T (X.keeps k) (hlim.keeps k) (hg.keeps k) ⟨mb, hbn.keeps k, hbv⟩ hget hnx ?_ fun h' tk' dx ⟨k', ⟨t1, hx⟩, dn, dne, hns⟩ => ?_
  · show A.depth + 1 < recursionLimit
    exact hroom
  · have old : ∀ b o, hp.get? b = some o → h'.get? b = some o := fun b o e => k' b o (Nat.ne_of_lt (Nat.lt_succ_of_lt (Heap.lt_size e))) (k b o e)
    have z : hp.objs.size + 1 + 1 ≤ dx := by
      have q := dn
      rw [Heap.size_push, Heap.size_push] at q
      exact q
    exact ⟨rfl, hq h' tk' (hp.objs.size + 1) dx ⟨old, Nat.le_succ _, ⟨t1, hx⟩, Nat.le_trans (Nat.le_trans (Nat.le_succ _) (Nat.le_succ _)) z, dne, hns⟩⟩
end
end EK
namespace L2
open PySem PySem.Spec PyProof.Rows EK
theorem relO_one {f : Str} {v : V} {u : Value} (r : RelV v u) (g : Str) : RelO (List.lookup g [(f, v)]) (if g = f then some u else none) := relO_put (fs := []) (mA := fun _ => none) r (fun _ => True.intro) g
section
variable {X : Cx} {C fI : Addr} {x f : Str}
/-- x(e) as a value: a new error at a, its dict at d -/
def tErrV (C : Addr) (f : Str) (ta : TA) : TE := fun σ H Q => ta σ H fun vs H1 => ∃ v, vs = [v] ∧ ∀ a d, H1 a = none → H1 d = none → d ≠ a → Q (.ref a) (upd (upd H1 d (exd d [(f, v)])) a (exo a C (some d)))
theorem pe_errV {a : Expr} {ta : TA} {p pos : Pos} {k : Nat} (T : ErrTxt X.prog X.K X.mg x f C fI) (hr : Room k X.A) (ha : PA X [a] ta) (hg : Gl X x) (hd : (x == ("__debug__" : Str)) = false := by decide)
    (he : starEach (a :: []) X.env = (false, eval a X.env) :: starEach [] X.env := by rfl) (hpl : (backTo pos (starEach [] X.env)).any (·.1) = false := by rfl) :
    PE X (.Call (.Name x p) [a] [] pos) (tErrV C f ta) := by
  refine ⟨fun pins s σ H Q I h => ?_⟩
  refine wpAny_Call_Name_kw (ld_glob I hg T.gC ?_ hd)
  refine PySem.W.callWith_K (h₀ := X.base) I.ok.mod.kin T.kC (thn (ha.run pos pins s σ H _ I h) fun us s1 hh => ?_) he hpl
  obtain ⟨vs, H1, I1, r1, v, ev, q1⟩ := hh
  subst ev
  refine ⟨I1.kIn, ?_⟩
  cases r1 with
  | cons rv rn =>
    rename_i v' us'
    cases rn
    show wpAny _ _ (call (.ref C) [v']) _ _ _
    have hlim := I1.nolimit
    obtain ⟨hp, g, dr, tk, os⟩ := s1
    obtain ⟨mb, hb1, hb2⟩ := I1.mod.blt
    refine wpAny_call (err_made T I1.kIn hlim (I1.mod.glob.keeps I1.bk) ⟨mb, hb1.keeps I1.bk, hb2⟩ (by have := hr.dp; omega) fun h' tk' e d M => ?_)
    obtain ⟨t1, hoe⟩ := M.obj
    have nd : H1 d = none := I1.hok.fresh M.dbig
    have ne : H1 e = none := I1.hok.fresh M.new
    obtain ⟨G, g1, g2⟩ := restrict h' fun b => decide (b ≠ e)
    have gk : ∀ b, b ≠ e → G.get? b = h'.get? b := fun b hb => g1 b (decide_eq_true hb)
    have ge : G.get? e = none := g2 e (by simp)
    have old : ∀ b o, hp.get? b = some o → G.get? b = some o := fun b o q => (gk b (Nat.ne_of_lt (Nat.lt_of_lt_of_le (Heap.lt_size q) M.new))).trans (M.keep b o q)
    have gs : ∀ b o, G.get? b = some o → h'.get? b = some o := fun b o q => by
      by_cases hbe : b = e
      · rw [hbe, ge] at q
        cases q
      · exact (gk b hbe).symm.trans q
    have J : Inv X pins σ (upd H1 d (exd d [(f, v)])) ⟨G, g, dr, tk', os⟩ := I1.laid (t' := tk') old M.dbig (exd_ok (M.ns.at fun o q => (gk d M.dne).trans q) (relO_one rv))
    have hne : (upd H1 d (exd d [(f, v)])) e = none := by
      rw [upd_ne (Ne.symm M.dne)]
      exact ne
    exact ⟨.ref e, _, J.laidN (t' := tk') gs ge hne (exo_ok hoe), rfl, q1 e d ne nd M.dne⟩
/-- a field of an error, read -/
def tErrF (K : PySem.W.Frag) (f : Str) (te : TE) : TE := fun σ H Q => te σ H fun x H1 => ∃ (a C d : Addr) (fs : List (Str × V)) (v : V), x = .ref a ∧ H1 a = some (exo a C (some d)) ∧ H1 d = some (exd d fs) ∧ XfC K C ∧ PySem.W.findIn K (.ref C) f = some none ∧ fs.lookup f = some v ∧ Q v H1
theorem pe_errF {e : Expr} {te : TE} {pos : Pos} (he : PE X e te) (hb : attributeBase e f X.env (eval e X.env) = eval e X.env := by rfl) : PE X (.Attribute e f pos) (tErrF X.K f te) := by
  refine ⟨fun pins s σ H Q I h => ?_⟩
  refine attr_of hb (thn (he.run pins s σ H _ I h) fun u s1 hh => ?_)
  obtain ⟨y, H1, I1, ry, a, C, d, fs, v, ey, ea, ed, T, hno, l, q⟩ := hh
  subst ey
  obtain rfl : u = Value.ref a := ry
  obtain ⟨t1, ha⟩ := exo_at I1.hok ea
  obtain ⟨mA, hns, hr⟩ := exd_at I1.hok ed
  obtain ⟨od, ho, hl⟩ := lookIn_ns hns
  obtain ⟨u, hu, ru⟩ := RelO.some_of (v := v) (o := mA f) (by rw [← l]; exact hr f)
  have J : PySem.W.InstAt s1.heap a _ C (some od) := ⟨ha, rfl, rfl, ho⟩
  exact HandSPX.exc_get I1.kIn J T.ga T.gg T.exC (PySem.W.findObj_own T.hdC hno rfl (by rw [hl, hu])) (handed_of ru) ⟨v, H1, I1.tok _, ru, q⟩
end
end L2

set_option Elab.async false
set_option linter.all false
set_option maxRecDepth 100000
set_option maxHeartbeats 4000000
/-! EqKit: things that are told equal, whatever they hold; isinstance of errors. -/
namespace L2
open PySem PySem.Spec PyProof.Rows
/-- x and y compare equal, at most n deep: one thing, or lists, tuples of such -/
inductive Sm (K : PySem.W.Frag) (H : Hp) : Nat → V → V → Prop
  | rf {n : Nat} (x : V) (h : ∀ b, x ≠ .flt b) : Sm K H n x x
  | ls {n : Nat} {a b : Addr} {xs ys : List V} (h1 : SqL K H a xs) (h2 : SqL K H b ys) (hl : xs.length = ys.length) (h : ∀ (i : Nat) x y, xs[i]? = some x → ys[i]? = some y → Sm K H n x y) : Sm K H (n + 1) (.ref a) (.ref b)
  | tp {n : Nat} {a b : Addr} {xs ys : List V} (h1 : SqT K H a xs) (h2 : SqT K H b ys) (hl : xs.length = ys.length) (h : ∀ (i : Nat) x y, xs[i]? = some x → ys[i]? = some y → Sm K H n x y) : Sm K H (n + 1) (.ref a) (.ref b)
section
variable {X : Cx} {pins : List (Addr × Obj)} {σ : St} {H : Hp} {s : Shared}
theorem sm_items {xs ys : List V} {us vs : List Value} {A : Around} (rx : Vals xs us) (ry : Vals ys vs)
    (h : ∀ (i : Nat) x y, xs[i]? = some x → ys[i]? = some y → ∀ u v, RelV x u → RelV y v → SeqAt.EqAt A s u v true) :
    ∀ j (h1 : j < us.toArray.size) (h2 : j < vs.toArray.size), SeqAt.EqAt A s us.toArray[j] vs.toArray[j] true := by
  intro j h1 h2
  have l1 := rx.length
  have l2 := ry.length
  have j1 : j < xs.length := by rw [l1]; simpa using h1
  have j2 : j < ys.length := by rw [l2]; simpa using h2
  obtain ⟨u, e1, r1⟩ := rx.get (List.getElem?_eq_getElem j1)
  obtain ⟨v, e2, r2⟩ := ry.get (List.getElem?_eq_getElem j2)
  have f1 : us.toArray[j] = u := by
    have q : us[j]? = some (us[j]'(by simpa using h1)) := List.getElem?_eq_getElem _
    rw [e1] at q
    simpa using (Option.some.inj q).symm
  have f2 : vs.toArray[j] = v := by
    have q : vs[j]? = some (vs[j]'(by simpa using h2)) := List.getElem?_eq_getElem _
    rw [e2] at q
    simpa using (Option.some.inj q).symm
  rw [f1, f2]
  exact h j _ _ (List.getElem?_eq_getElem j1) (List.getElem?_eq_getElem j2) u v r1 r2
theorem all_true {n : Nat} : ((List.range n).all fun _ => true) = true := by
  induction n with
  | zero => rfl
  | succ n ih => simp
theorem sm_at (I : Inv X pins σ H s) : ∀ {n : Nat} {x y : V} {u v : Value} {A : Around}, Sm X.K H n x y → RelV x u → RelV y v → A.units + n < cLine → SeqAt.EqAt A s u v true := by
  intro n x y u v A h
  induction h generalizing u v A with
  | rf x hf =>
    intro r1 r2 _
    cases x with
    | non => cases r1; cases r2; exact .same _
    | bl b => cases r1; cases r2; exact .same _
    | int i =>
      obtain ⟨t, rfl⟩ := r1
      obtain ⟨t', rfl⟩ := r2
      have q := SeqAt.EqAt.int_int (A := A) (s := s) i t i t'
      rw [beq_self_eq_true] at q
      exact q
    | str z =>
      obtain ⟨t, rfl⟩ := r1
      obtain ⟨t', rfl⟩ := r2
      have q := SeqAt.EqAt.str_str (A := A) (s := s) z t z t'
      rw [beq_self_eq_true] at q
      exact q
    | byt b =>
      obtain ⟨t, rfl⟩ := (show ∃ t, u = Value.bytes b t from r1)
      obtain ⟨t', rfl⟩ := (show ∃ t, v = Value.bytes b t from r2)
      exact fun prog w E Q h => PySem.W.eqBool_bytes (by simpa using h)
    | flt b => exact absurd rfl (hf b)
    | ref a => cases r1; cases r2; exact .same _
    | ty n => cases r1; cases r2; exact .same _
  | @ls n a b xs ys h1 h2 hl _ ih =>
    intro r1 r2 hu
    cases r1; cases r2
    by_cases e : a = b
    · rw [e]; exact .same _
    · obtain ⟨us, ru, ⟨o, m, ho, hc, _, hd⟩, _⟩ := I.list h1
      obtain ⟨vs, rv, ⟨o', m', ho', hc', _, hd'⟩, _⟩ := I.list h2
      have hs : us.toArray.size = vs.toArray.size := by simp only [List.size_toArray]; rw [← ru.length, ← rv.length, hl]
      refine .of_refs e ?_
      have q := SeqAt.RcAt.lists (A := A) (s := s) (e := fun _ => true) ⟨o, ho, hc, m, hd⟩ ⟨o', ho', hc', m', hd'⟩ hs (by omega) (sm_items (A := A.in1) ru rv fun i x y e1 e2 u v s1 s2 => ih i x y e1 e2 s1 s2 (by show A.units + 1 + n < cLine; omega))
      rw [all_true] at q
      exact q
  | @tp n a b xs ys h1 h2 hl _ ih =>
    intro r1 r2 hu
    cases r1; cases r2
    by_cases e : a = b
    · rw [e]; exact .same _
    · obtain ⟨us, ru, ⟨o, ho, hc, m, hd⟩, _⟩ := I.tuple h1
      obtain ⟨vs, rv, ⟨o', ho', hc', m', hd'⟩, _⟩ := I.tuple h2
      have hs : us.toArray.size = vs.toArray.size := by simp only [List.size_toArray]; rw [← ru.length, ← rv.length, hl]
      refine .of_refs e ?_
      have q := SeqAt.RcAt.tuples (A := A) (s := s) (e := fun _ => true) ⟨o, ho, hc, m, hd⟩ ⟨o', ho', hc', m', hd'⟩ (by omega) (sm_items (A := A.in1) ru rv fun i x y e1 e2 u v s1 s2 => ih i x y e1 e2 s1 s2 (by show A.units + 1 + n < cLine; omega))
      rw [all_true, hs, beq_self_eq_true] at q
      exact q
/-- what may stand on both sides of a comparison that is told equal -/
inductive SmT (K : PySem.W.Frag) (H : Hp) : V → V → Prop
  | sc (x : V) (h : scal x x = true) : SmT K H x x
  | ls {a b : Addr} {xs ys : List V} (h1 : SqL K H a xs) (h2 : SqL K H b ys) (hl : xs.length = ys.length) (h : ∀ (i : Nat) x y, xs[i]? = some x → ys[i]? = some y → Sm K H 60 x y) : SmT K H (.ref a) (.ref b)
  | tp {a b : Addr} {xs ys : List V} (h1 : SqT K H a xs) (h2 : SqT K H b ys) (hl : xs.length = ys.length) (h : ∀ (i : Nat) x y, xs[i]? = some x → ys[i]? = some y → Sm K H 60 x y) : SmT K H (.ref a) (.ref b)
  | dk {a b : Addr} {kvs : List (Key × V)} (h1 : H a = some (.dK kvs)) (h2 : H b = some (.dK kvs)) (nd : (kvs.map (·.1)).Nodup) (fl : ∀ p ∈ kvs, flatB p.2 = true) : SmT K H (.ref a) (.ref b)
theorem op_neS (hu : X.A.units + 64 < cLine) : OpR X (compareOp .NotEq) (fun x y H Q => SmT X.K H x y ∧ Q (.bl false) H) := by
  intro pins s σ H x y v u Q I rx ry ⟨h, q⟩
  cases h with
  | sc x h => exact op_ne pins s σ H x x v u Q I rx ry ⟨h, by rw [decide_eq_true rfl]; exact q⟩
  | ls h1 h2 hl h =>
    cases rx; cases ry
    obtain ⟨us, ru, ⟨o, m, ho, hc, _, hd⟩, _⟩ := I.list h1
    obtain ⟨vs, rv, ⟨o', m', ho', hc', _, hd'⟩, _⟩ := I.list h2
    have hs : us.toArray.size = vs.toArray.size := by simp only [List.size_toArray]; rw [← ru.length, ← rv.length, hl]
    have z := SeqAt.RcNeAt.lists (A := X.A) (s := s) (e := fun _ => true) ⟨o, ho, hc, m, hd⟩ ⟨o', ho', hc', m', hd'⟩ hs (by omega) (sm_items (A := X.A.in1) ru rv fun i x y e1 e2 u v s1 s2 => sm_at I (h i x y e1 e2) s1 s2 (by show X.A.units + 1 + 60 < cLine; omega))
    rw [all_true] at z
    exact z X.prog X.w _ _ ⟨.bl false, H, I, rfl, q⟩
  | tp h1 h2 hl h =>
    cases rx; cases ry
    obtain ⟨us, ru, ⟨o, ho, hc, m, hd⟩, _⟩ := I.tuple h1
    obtain ⟨vs, rv, ⟨o', ho', hc', m', hd'⟩, _⟩ := I.tuple h2
    have hs : us.toArray.size = vs.toArray.size := by simp only [List.size_toArray]; rw [← ru.length, ← rv.length, hl]
    have z := SeqAt.RcNeAt.tuples (A := X.A) (s := s) (e := fun _ => true) ⟨o, ho, hc, m, hd⟩ ⟨o', ho', hc', m', hd'⟩ (by omega) (sm_items (A := X.A.in1) ru rv fun i x y e1 e2 u v s1 s2 => sm_at I (h i x y e1 e2) s1 s2 (by show X.A.units + 1 + 60 < cLine; omega))
    rw [all_true, hs, beq_self_eq_true] at z
    exact z X.prog X.w _ _ ⟨.bl false, H, I, rfl, q⟩
  | @dk a b kvs h1 h2 nd fl =>
    cases rx; cases ry
    obtain ⟨_, ya, va, ra, da⟩ := (show ObjOk X.prog X.w H s.heap a (.dK kvs) from I.hok a _ h1)
    obtain ⟨_, yb, vb, rb, db⟩ := (show ObjOk X.prog X.w H s.heap b (.dK kvs) from I.hok b _ h2)
    have hl : va.length = vb.length := ra.length.symm.trans rb.length
    exact PySem.W.keq_ne (knd := mixKind X.prog X.w) (r := true) ya yb da db (by omega) (fun _ => hits_all rb ra fun p hp => ⟨val_nodup nd p hp, fl p hp⟩) (fin_bl I q (by simp [hl]))
theorem op_eqS (hu : X.A.units + 64 < cLine) : OpR X (compareOp .Eq) (fun x y H Q => SmT X.K H x y ∧ Q (.bl true) H) := by
  intro pins s σ H x y v u Q I rx ry ⟨h, q⟩
  cases h with
  | sc x h => exact op_eq pins s σ H x x v u Q I rx ry ⟨h, by rw [decide_eq_true rfl]; exact q⟩
  | ls h1 h2 hl h =>
    cases rx; cases ry
    obtain ⟨us, ru, ⟨o, m, ho, hc, _, hd⟩, _⟩ := I.list h1
    obtain ⟨vs, rv, ⟨o', m', ho', hc', _, hd'⟩, _⟩ := I.list h2
    have hs : us.toArray.size = vs.toArray.size := by simp only [List.size_toArray]; rw [← ru.length, ← rv.length, hl]
    have z := SeqAt.RcAt.lists (A := X.A) (s := s) (e := fun _ => true) ⟨o, ho, hc, m, hd⟩ ⟨o', ho', hc', m', hd'⟩ hs (by omega) (sm_items (A := X.A.in1) ru rv fun i x y e1 e2 u v s1 s2 => sm_at I (h i x y e1 e2) s1 s2 (by show X.A.units + 1 + 60 < cLine; omega))
    rw [all_true] at z
    exact z X.prog X.w _ _ ⟨.bl true, H, I, rfl, q⟩
  | tp h1 h2 hl h =>
    cases rx; cases ry
    obtain ⟨us, ru, ⟨o, ho, hc, m, hd⟩, _⟩ := I.tuple h1
    obtain ⟨vs, rv, ⟨o', ho', hc', m', hd'⟩, _⟩ := I.tuple h2
    have hs : us.toArray.size = vs.toArray.size := by simp only [List.size_toArray]; rw [← ru.length, ← rv.length, hl]
    have z := SeqAt.RcAt.tuples (A := X.A) (s := s) (e := fun _ => true) ⟨o, ho, hc, m, hd⟩ ⟨o', ho', hc', m', hd'⟩ (by omega) (sm_items (A := X.A.in1) ru rv fun i x y e1 e2 u v s1 s2 => sm_at I (h i x y e1 e2) s1 s2 (by show X.A.units + 1 + 60 < cLine; omega))
    rw [all_true, hs, beq_self_eq_true] at z
    exact z X.prog X.w _ _ ⟨.bl true, H, I, rfl, q⟩
  | @dk a b kvs h1 h2 nd fl =>
    exact op_eq_dict (by omega) pins s σ H _ _ v u Q I rx ry ⟨a, b, kvs, rfl, rfl, h1, h2, nd, fl, q⟩
/-- isinstance(e, c), e an error that is held as a value -/
def rIsErr (K : PySem.W.Frag) : List V → Hp → VK → Prop := fun xs H Q => ∃ (a C : Addr) (d : Option Addr) (fs : List (Str × V)) (c : V) (u : Value) (b : Bool), xs = [.ref a, c] ∧ H a = some (exo a C d) ∧ (∀ dd, d = some dd → H dd = some (exd dd fs)) ∧ ExcC K C ∧ ClsV c u ∧ PySem.W.kitOne K (.ref C) u = some b ∧ Q (.bl b) H
theorem call_isErr : CallR X (.builtin "isinstance") (rIsErr X.K) := by
  intro pins s σ H xs us Q I r h
  obtain ⟨a, C, d, fs, c, u, b, rfl, ea, ed, T, k, e, q⟩ := h
  obtain ⟨u1, u2, rfl, r1, r2⟩ := vals2 r
  have e2 := k.eq r2
  subst e2
  cases r1
  obtain ⟨t1, ha⟩ := exo_at I.hok ea
  have hcl : (PySem.W.clsIn X.K C).isSome = true := by
    obtain ⟨cd, hc, _⟩ := PySem.W.any_some T.hd
    rw [hc]
    rfl
  cases d with
  | none => exact PySem.W.kia_one (PySem.W.kitx_exc (od := none) hcl T.hg T.hk T.hs T.ha T.hn T.ht T.hm) I.kIn (show PySem.W.InstAt s.heap a _ C none from ⟨ha, rfl, rfl, trivial⟩) e (fun z => nomatch z) fun tk => ⟨.bl b, H, I.tok tk, rfl, q⟩
  | some dd =>
    obtain ⟨mA, ⟨od, es, ep, ho, hr⟩, _⟩ := exd_at I.hok (ed dd rfl)
    exact PySem.W.kia_one (PySem.W.kitx_exc (od := some od) hcl T.hg T.hk T.hs T.ha T.hn T.ht T.hm) I.kIn (show PySem.W.InstAt s.heap a _ C (some od) from ⟨ha, rfl, rfl, ho⟩) e (fun z => nomatch z) fun tk => ⟨.bl b, H, I.tok tk, rfl, q⟩
end
end L2

set_option Elab.async false
set_option linter.all false
set_option maxRecDepth 100000
set_option maxHeartbeats 4000000
namespace T23
open PySem L2
def top (i : Nat) : Stmt := PySem.Challenge.pw_turnindex_k23_whole_great_orders.main.body.getD i (.Pass ⟨0, 0, 0, 0⟩)
abbrev sIsText : Stmt := top 8
abbrev sIsNum : Stmt := top 9
abbrev sIsNB : Stmt := top 10
abbrev sIsOrd : Stmt := top 11
abbrev sCkText : Stmt := top 12
abbrev sCkNB : Stmt := top 13
abbrev sCkOrd : Stmt := top 14
abbrev sOrderOf : Stmt := top 16
abbrev sDrops : Stmt := top 17
abbrev sLeastT : Stmt := top 18
abbrev sOrdN : Stmt := top 19
abbrev sHas : Stmt := top 20
abbrev sRanks : Stmt := top 21
abbrev sUrn : Stmt := top 23
abbrev sPull : Stmt := top 24
abbrev sPick : Stmt := top 25
abbrev sText : Stmt := top 26
abbrev sShuffled : Stmt := top 27
abbrev sFalls : Stmt := top 28
abbrev sWays : Stmt := top 29
abbrev sNearly : Stmt := top 30
abbrev sToAndFro : Stmt := top 31
abbrev sRight : Stmt := top 32
abbrev sLaw : Stmt := top 33
/-- an urn of draws: its own digits left, its number, how often it was asked -/
def UrnAt (H : Hp) (a : Addr) (n : Int) : Prop := ∃ w0 w1 w2 : Int, H a = some (.lst [.int w0, .int w1, .int w2]) ∧ 0 ≤ w1 ∧ w1 < 2147483563 ∧ 0 ≤ w2 ∧ w2 ≤ n
def KeepB (a : Addr) (H H' : Hp) : Prop := ∀ b o, H b = some o → b ≠ a → H' b = some o
theorem KeepB.trans {a : Addr} {H H1 H2 : Hp} (s : KeepB a H H1) (t : KeepB a H1 H2) : KeepB a H H2 := fun b o e n => t b o (s b o e n) n
def spUrn : Sp := fun vs H Q _ => ∃ c : Int, vs = [.int c] ∧ ∀ p H', H p = none → UrnAt H' p 0 → Same H H' → Q (.ref p) H'
def spPull : Sp := fun vs H Q _ => ∃ (a : Addr) (m n : Int), vs = [.ref a, .int m] ∧ UrnAt H a n ∧ n ≤ 1000000 ∧ 0 < m ∧ m < 1073741824 ∧ ∀ (d : Int) H', 0 ≤ d → d < m → UrnAt H' a (n + 1) → KeepB a H H' → Q (.int d) H'
structure TxtU (K : PySem.W.Frag) (mg : Str → Option Value) : Prop where
  int : mg "int" = none
  abs : mg "abs" = none
section
variable {P : Program} {w : World} {K : PySem.W.Frag} {mg : Str → Option Value} {base : Heap}
theorem scUrn : FnScope ["_law_cell"] ["_law_cell"] (defScope sUrn) := ⟨rfl, rfl, rfl, by decide +kernel, rfl, by decide +kernel, by decide +kernel⟩
theorem ok_urn {f : Addr} {fd : FuncData} (F : Fun K "_law_urn" "_law_urn" sUrn f fd) (T : TxtU K mg) : FnOk P w K mg base CX0 1 f fd ["_law_cell"] spUrn := by
  refine F.ok scUrn (fun vs H Q E h => ?_) (fun cdv A outer s H vs Q E hr h => ?_)
  · obtain ⟨c, rfl, _⟩ := h
    rfl
  · obtain ⟨c, rfl, k⟩ := h
    refine ⟨_, (pss_one (ps_ret (pe_lst (pa_cons (pe_ifExp (pt_cmpR op_ge (pe_callB call_abs (by rfl) T.abs (by decide +kernel) (pa_cons (pv 0) pa_nil)) (pe_op op_pow pe_int pe_int) (nomark _)) (pe_callB call_abs (by rfl) T.abs (by decide +kernel) (pa_cons (pv 0) pa_nil)) pe_int) (pa_cons (pe_op op_mod (pe_callTy call_int1 (by rfl) T.int (by decide +kernel) (pa_cons (pv 0) pa_nil)) pe_int) (pa_cons pe_int pa_nil)))))), ?_⟩
    refine ⟨_, rfl, _, rfl, _, _, rfl, rfl, ⟨by decide, by decide, by decide⟩, _, _, rfl, rfl, _, rfl, ?_⟩
    have fin : ∀ w0 : Int, ∃ v, (some (some (V.int c)) : Option (Option V)) = some (some v) ∧ ((∃ i, [v] = [V.int i] ∧ ∃ i_1 j, V.int i = .int i_1 ∧ V.int 2147483563 = .int j ∧ 0 < j ∧ [V.int w0, .int (i_1 % j), .int 0].length ≤ sizeLine ∧ ∀ p, H p = none → Q (.ref p) (upd H p (.lst [V.int w0, .int (i_1 % j), .int 0])))) := fun w0 =>
      ⟨_, rfl, _, rfl, _, _, rfl, rfl, (by decide), (by show 3 ≤ sizeLine; decide), fun p hp => k p _ hp ⟨_, _, _, upd_same, Int.emod_nonneg _ (by decide), Int.emod_lt_of_pos _ (by decide), by decide, by decide⟩ fun b o e => by rw [upd_ne (ne_of_none e hp)]; exact e⟩
    refine ite2 (fun h0 => ?_) (fun h0 => ?_)
    · refine ⟨_, rfl, _, rfl, ?_⟩
      obtain ⟨v, e, i, ev, i1, j, e1, e2, h1, h2, h3⟩ := fin (if c < 0 then -c else c)
      exact ⟨_, rfl, .inl ⟨_, rfl, _, _, rfl, rfl, (by show (0 : Int) < 2147483563; decide), (by show 3 ≤ sizeLine; decide), fun p hp => k p _ hp ⟨_, _, _, upd_same, Int.emod_nonneg _ (by decide), Int.emod_lt_of_pos _ (by decide), by decide, by decide⟩ fun b o e => by rw [upd_ne (ne_of_none e hp)]; exact e⟩⟩
    · exact ⟨_, rfl, .inl ⟨_, rfl, _, _, rfl, rfl, (by show (0 : Int) < 2147483563; decide), (by show 3 ≤ sizeLine; decide), fun p hp => k p _ hp ⟨_, _, _, upd_same, Int.emod_nonneg _ (by decide), Int.emod_lt_of_pos _ (by decide), by decide, by decide⟩ fun b o e => by rw [upd_ne (ne_of_none e hp)]; exact e⟩⟩
theorem scPull : FnScope ["_law_urn_here", "_law_many", "_law_found", "_law_mixed"] ["_law_urn_here", "_law_many"] (defScope sPull) := ⟨rfl, rfl, rfl, by decide +kernel, rfl, by decide +kernel, by decide +kernel⟩
theorem ok_pull {f : Addr} {fd : FuncData} (F : Fun K "_law_pull" "_law_pull" sPull f fd) (T : TxtU K mg) : FnOk P w K mg base CX0 1 f fd ["_law_urn_here", "_law_many"] spPull := by
  refine F.ok scPull (fun vs H Q E h => ?_) (fun cdv A outer s H vs Q E hr h => ?_)
  · obtain ⟨a, m, n, rfl, _⟩ := h
    rfl
  · obtain ⟨a, m, n, rfl, ⟨w0, w1, w2, ha, h1, h2, h3, h4⟩, hn, hm, hm2, k⟩ := h
    have nd := scPull.nd
    refine ⟨_, (pss_cons (ps_if (pt_cmpR op_gt (pe_ix ix_list (pv 0) pe_int (fun _ _ => rfl)) pe_int (nomark _)) (pss_cons (ps_set (i := 2) nd rfl (Or.inl rfl) (pe_op op_mod (pe_callTy call_int1 (by rfl) T.int (by decide +kernel) (pa_cons (pe_ix ix_list (pv 0) pe_int (fun _ _ => rfl)) pa_nil)) (pv 1)))
      (pss_cons (ps_asg (pe_op op_fdiv (pe_ix ix_list (pv 0) pe_int (fun _ _ => rfl)) (pv 1)) (pg_sub (pv 0) pe_int set_list))
      (pss_one (ps_ret (pv 2))))) pss_nil)
      (pss_cons (ps_asg (pe_op op_add (pe_ix ix_list (pv 0) pe_int (fun _ _ => rfl)) pe_int) (pg_sub (pv 0) pe_int set_list))
      (pss_cons (ps_set (i := 3) nd rfl (Or.inl rfl) (pe_op op_mod (pe_callTy call_int1 (by rfl) T.int (by decide +kernel) (pa_cons (pe_op op_add (pe_op op_add (pe_op op_mul (pe_ix ix_list (pv 0) pe_int (fun _ _ => rfl)) pe_int) (pe_op op_mul (pe_ix ix_list (pv 0) pe_int (fun _ _ => rfl)) pe_int)) pe_int) pa_nil)) pe_int))
      (pss_cons (ps_set (i := 3) nd rfl (Or.inl rfl) (pe_op op_mod (pe_callTy call_int1 (by rfl) T.int (by decide +kernel) (pa_cons (pe_op op_mul (pv 3) (pe_op op_add (pe_op op_fdiv (pv 3) pe_int) pe_int)) pa_nil)) pe_int))
      (pss_cons (ps_set (i := 3) nd rfl (Or.inl rfl) (pe_op op_mod (pe_callTy call_int1 (by rfl) T.int (by decide +kernel) (pa_cons (pe_op op_mul (pv 3) (pe_op op_add (pe_op op_fdiv (pv 3) pe_int) pe_int)) pa_nil)) pe_int))
      (pss_one (ps_ret (pe_op op_mod (pe_callTy call_int1 (by rfl) T.int (by decide +kernel) (pa_cons (pe_op op_fdiv (pv 3) pe_int) pa_nil)) (pv 1))))))))), ?_⟩
    refine ⟨_, rfl, a, _, 0, _, rfl, rfl, .of ha, rfl, _, _, rfl, rfl, _, rfl, ?_⟩
    refine ite2 (fun h0 => ?_) (fun h0 => ?_)
    · refine ⟨_, rfl, a, _, 0, _, rfl, rfl, .of ha, rfl, .inl ⟨_, rfl, _, rfl, _, _, rfl, rfl, hm, ?_⟩⟩
      refine ⟨_, rfl, a, _, 0, _, rfl, rfl, .of ha, rfl, _, rfl, _, _, rfl, rfl, ⟨hm, hm2⟩, _, rfl, a, _, 0, 0, rfl, rfl, ha, rfl, _, rfl, ?_⟩
      refine k _ _ (Int.emod_nonneg _ (by omega)) (Int.emod_lt_of_pos _ hm) ⟨_, _, _, upd_same, h1, h2, h3, by omega⟩ fun b o e n => ?_
      rw [upd_ne n]
      exact e
    · refine ⟨_, rfl, a, _, 2, _, rfl, rfl, .of ha, rfl, _, _, rfl, rfl, _, rfl, a, _, 2, 2, rfl, rfl, ha, rfl, ?_⟩
      have ha2 : (upd H a (.lst ([V.int w0, V.int w1, V.int w2].set 2 (V.int (w2 + 1))))) a = some (.lst [.int w0, .int w1, .int (w2 + 1)]) := upd_same
      refine ⟨_, rfl, a, _, 1, _, rfl, rfl, .of ha2, rfl, _, _, rfl, rfl, .inl ⟨by omega, by omega⟩, _, rfl, a, _, 2, _, rfl, rfl, .of ha2, rfl, _, _, rfl, rfl, .inl ⟨by omega, by omega⟩, _, _, rfl, rfl, _, _, rfl, rfl, .inl ⟨_, rfl, _, _, rfl, rfl, (by show (0 : Int) < 2147483647; decide), ?_⟩⟩
      have g0 := Int.emod_nonneg (w1 * 48619 + (w2 + 1) * 999979 + 60611) (show (2147483647 : Int) ≠ 0 by decide)
      have g1 := Int.emod_lt_of_pos (w1 * 48619 + (w2 + 1) * 999979 + 60611) (show (0 : Int) < 2147483647 by decide)
      generalize (w1 * 48619 + (w2 + 1) * 999979 + 60611) % 2147483647 = x1 at g0 g1
      refine ⟨_, rfl, _, rfl, _, _, rfl, rfl, ⟨by decide, by decide⟩, _, _, rfl, rfl, _, _, rfl, rfl, .inl ⟨by omega, by omega⟩, .inl ⟨_, rfl, _, _, rfl, rfl, (by show (0 : Int) < 2147483629; decide), ?_⟩⟩
      have g2 := Int.emod_nonneg (x1 * (x1 / 1021 + 52081)) (show (2147483629 : Int) ≠ 0 by decide)
      have g3 := Int.emod_lt_of_pos (x1 * (x1 / 1021 + 52081)) (show (0 : Int) < 2147483629 by decide)
      refine ⟨_, rfl, _, rfl, _, _, rfl, rfl, ⟨by decide, by decide⟩, _, _, rfl, rfl, _, _, rfl, rfl, .inl ⟨by omega, by omega⟩, .inl ⟨_, rfl, _, _, rfl, rfl, (by show (0 : Int) < 2147483563; decide), ?_⟩⟩
      refine ⟨_, rfl, _, _, rfl, rfl, ⟨by decide, by decide⟩, .inl ⟨_, rfl, _, rfl, _, _, rfl, rfl, hm, ?_⟩⟩
      refine k _ _ (Int.emod_nonneg _ (by omega)) (Int.emod_lt_of_pos _ hm) ⟨_, _, _, ha2, h1, h2, by omega, by omega⟩ fun b o e n => ?_
      rw [upd_ne n]
      exact e
end
end T23

set_option Elab.async false
set_option linter.all false
set_option maxRecDepth 100000
set_option maxHeartbeats 4000000
namespace L2
open PySem EK
theorem alloc {H : Hp} {p : Addr} {o : HO} (hp : H p = none) : ∃ H1, upd H p o = H1 ∧ Same H H1 ∧ H1 p = some o :=
  ⟨_, rfl, fun b u e => by rw [upd_ne (ne_of_none e hp)]; exact e, upd_same⟩
/-- an error of the class at C stands at a, its one value v -/
def ErrAt (H : Hp) (a d C : Addr) (f : Str) (v : V) : Prop := H a = some (exo a C (some d)) ∧ H d = some (exd d [(f, v)])
theorem ErrAt.keep {H H' : Hp} {a d C : Addr} {f : Str} {v : V} (e : ErrAt H a d C f v) (s : Same H H') : ErrAt H' a d C f v := ⟨s _ _ e.1, s _ _ e.2⟩
theorem alloc_err {H : Hp} {a d C : Addr} {f : Str} {v : V} (ha : H a = none) (hd : H d = none) (hne : d ≠ a) : ∃ H1, upd (upd H d (exd d [(f, v)])) a (exo a C (some d)) = H1 ∧ Same H H1 ∧ ErrAt H1 a d C f v :=
  ⟨_, rfl, fun b u e => by rw [upd_ne (ne_of_none e ha), upd_ne (ne_of_none e hd)]; exact e, upd_same, by rw [upd_ne hne, upd_same]⟩
theorem look1 (f : Str) (v : V) : List.lookup f [(f, v)] = some v := by rw [lookup_put, if_pos rfl]
theorem _root_.EK.ErrTxt.xf {P : Program} {K : PySem.W.Frag} {mg : Str → Option Value} {x f : Str} {C fI : Addr} (T : ErrTxt P K mg x f C fI) : XfC K C := ⟨T.ga, T.gg, T.exC, T.hdC⟩
end L2

set_option Elab.async false
set_option linter.all false
set_option maxRecDepth 100000
set_option maxHeartbeats 4000000
/-! SetTup: len(set(t)), t a tuple of texts. -/
namespace L2
open PySem PySem.Spec PyProof.Rows
/-- the unlike ones, in the order of their first -/
def ddS (l : List Str) : List Str := l.foldl (fun acc x => if x ∈ acc then acc else acc ++ [x]) []
theorem ddS_snoc (l : List Str) (x : Str) : ddS (l ++ [x]) = if x ∈ ddS l then ddS l else ddS l ++ [x] := by
  unfold ddS
  rw [List.foldl_append]
  rfl
theorem ddS_mem (l : List Str) (y : Str) : y ∈ ddS l ↔ y ∈ l := by
  have gen : ∀ (m acc : List Str), y ∈ m.foldl (fun acc x => if x ∈ acc then acc else acc ++ [x]) acc ↔ y ∈ acc ∨ y ∈ m := by
    intro m
    induction m with
    | nil => intro acc; simp
    | cons a m ih =>
      intro acc
      rw [List.foldl_cons, ih]
      by_cases h : a ∈ acc
      · rw [if_pos h]
        constructor
        · rintro (q | q)
          · exact .inl q
          · exact .inr (List.mem_cons_of_mem _ q)
        · rintro (q | q)
          · exact .inl q
          · rcases List.mem_cons.mp q with q | q
            · exact .inl (q ▸ h)
            · exact .inr q
      · rw [if_neg h, List.mem_append, List.mem_singleton, List.mem_cons]
        constructor
        · rintro ((q | q) | q)
          · exact .inl q
          · exact .inr (.inl q)
          · exact .inr (.inr q)
        · rintro (q | q | q)
          · exact .inl (.inl q)
          · exact .inl (.inr q)
          · exact .inr q
  have := gen l []
  simpa [ddS] using this
theorem ddS_len (l : List Str) : (ddS l).length ≤ l.length := by
  have gen : ∀ (m acc : List Str), (m.foldl (fun acc x => if x ∈ acc then acc else acc ++ [x]) acc).length ≤ acc.length + m.length := by
    intro m
    induction m with
    | nil => intro acc; exact Nat.le_refl _
    | cons a m ih =>
      intro acc
      rw [List.foldl_cons]
      refine Nat.le_trans (ih _) ?_
      split
      · rw [List.length_cons]; omega
      · rw [List.length_append, List.length_singleton, List.length_cons]; omega
  have := gen l []
  simpa [ddS] using this
section
variable {pr : Program} {w : World} {B : Around} {RR : Result → Shared → Prop} {it : Addr} {fq ww : List Addr} {GG : Array GenState → Array GenState → Prop} {m : Nat} {PP : Nat → Value → Prop} {TT : Nat → Shared → Prop}
theorem loop_texts (U : WalksS pr w B.in1 it fq ww GG m PP TT) (so : Addr) (hso : so ∉ fq) (ys : List Str) (hys : ys.length = m) (few : m < 64) (hv : ∀ i v, PP i v → ∃ t, v = .str (ys.getD i Str.empty) t) :
    ∀ (left i : Nat) (s : Shared), m - i = left → i ≤ m → TT i s → s.heap.SetOf (strKind pr w) so (fun q => decide (q ∈ ys.take i)) (ddS (ys.take i)).length →
      (∀ s', Moved (so :: ww) GG s s' → s'.heap.SetOf (strKind pr w) so (fun q => decide (q ∈ ys)) (ddS ys).length → RR (.ok (.ret .none)) s') →
      codeAny (model pr w) B (.builtin "set.update.loop" ⟨[.ref so, .ref it], []⟩) RR s := by
  have now : so ∉ ww := fun h => hso (U.sub _ h)
  have sub2 : ∀ b ∈ ww, b ∈ so :: ww := fun b hb => List.mem_cons_of_mem _ hb
  intro left
  induction left with
  | zero =>
    intro i s hl hi ht hS hR
    obtain rfl : i = m := by omega
    rw [← hys, List.take_length] at hS
    refine codeAny_builtin F.entry_set_update_loop ?_
    rw [Around.under_plainId F.plain_set_update_loop _]
    refine wpAny_bind (U.done s _ _ ht fun s' mv => ?_)
    obtain ⟨o, es, ep, tb, ho, rest⟩ := hS
    exact wpAny_pure (hR s' (mv.mono sub2) ⟨o, es, ep, tb, mv.heap so _ now ho, rest⟩)
  | succ left ih =>
    intro i s hl hi ht hS hR
    have him : i < m := by omega
    refine codeAny_builtin F.entry_set_update_loop ?_
    rw [Around.under_plainId F.plain_set_update_loop _]
    refine wpAny_bind (U.item i s _ _ him ht fun v s' hP ht' mv => ?_)
    obtain ⟨t, rfl⟩ := hv i v hP
    have hS' : s'.heap.SetOf (strKind pr w) so (fun q => decide (q ∈ ys.take i)) (ddS (ys.take i)).length := by
      obtain ⟨o, es, ep, tb, ho, rest⟩ := hS
      exact ⟨o, es, ep, tb, mv.heap so _ now ho, rest⟩
    have hlen := ddS_len (ys.take i)
    rw [List.length_take] at hlen
    refine wpAny_bind (wpAny_holding ?_)
    unfold setAdd
    refine wpAny_holding ?_
    refine wpAny_bind ((strKind pr w).pyHash (k := ys.getD i Str.empty) (strKind_is _ _ _ _) ?_)
    refine wpAny_setAddHashed_of (knd := strKind pr w) (s := { s' with toks := s'.toks + 1 }) (strKind_is _ _ _ _) rfl hS' (by unfold scanBound; omega) fun h' sb hS2 => ?_
    have ey : ys.take (i + 1) = ys.take i ++ [ys.getD i Str.empty] := by
      rw [List.take_succ, List.getD_eq_getElem?_getD, List.getElem?_eq_getElem (by omega)]
      rfl
    have hS3 : h'.SetOf (strKind pr w) so (fun q => decide (q ∈ ys.take (i + 1))) (ddS (ys.take (i + 1))).length := by
      rw [ey]
      refine SetOf_congr hS2 (fun q => ?_) ?_
      · by_cases h1 : q ∈ ys.take i
        · simp [h1]
        · simp [h1]
      · rw [ddS_snoc]
        by_cases h1 : ys.getD i Str.empty ∈ ys.take i
        · rw [if_pos ((ddS_mem _ _).mpr h1), if_pos (by simpa using h1)]
        · rw [if_neg (fun z => h1 ((ddS_mem _ _).mp z)), if_neg (by simpa using h1), List.length_append]
          rfl
    refine wpAny_pure ⟨plainId_quiet F.plain_set_update_loop _, ih (i + 1) _ (by omega) him (U.frame _ s' _ _ ht' (Nat.le_succ _) fun b hb o e => ?_) hS3 fun s2 mv2 hS4 => ?_⟩
    · rw [sb.2 b (fun z : b = so => hso (by rw [← z]; exact hb))]
      exact e
    · refine hR s2 (Moved.trans U.gtrans ((mv.mono sub2).then_heap (Nat.le_succ _) fun b o hb e => ?_) mv2) hS4
      rw [sb.2 b (fun z : b = so => hb (by rw [z]; exact List.mem_cons_self))]
      exact e
end
section
variable {pr : Program} {w : World} {B : Around} {EE : Value → Shared → Prop} {s : Shared}
abbrev setOb (led : Bool) : Obj := { cls := .type "set", dict := none, data := .set #[] 0 (.fresh 0 0 led) }
theorem call_set_texts {tu : Addr} {its : Array Value} {ys : List Str} {QQ : Value → Shared → Prop} (hd : B.handled = none) (ht : s.heap.IsTuple tu its) (hy : StrsAre its.toList ys) (few : ys.length < 64)
    (fin : ∀ (h' : Heap) (tk : Nat), h'.SetOf (strKind pr w) s.heap.objs.size (fun q => decide (q ∈ ys)) (ddS ys).length → (∀ b o, b < s.heap.objs.size → s.heap.get? b = some o → h'.get? b = some o) → QQ (.ref s.heap.objs.size) { s with heap := h', toks := tk }) :
    wpAny (model pr w) B (call (.type "set") [.ref tu]) QQ EE s := by
  obtain ⟨cc, tl, mro⟩ := F.called_set.mro
  have md := F.called_set.made
  have sb := F.called_set.sub
  refine wpAny_call (codeAny_of_tree ?_)
  show wpAny _ _ (callAny (.type "set") _) _ _ _
  refine wpAny_pure ⟨Code.quiet_builtin _ (by decide +kernel), codeAny_builtin F.entry_type_call ?_⟩
  rw [Around.under_plain (weight_type_call_type "set" [.ref tu] []) rfl]
  have q1 := F.called_set.notType
  have q2 := F.called_set.canCreate
  have q3 := F.typeCall_set_1 (.ref tu)
  repeat (any_goals (first | assumption | wp_step))
  refine codeAny_mono (code_set_new_1 (.ref tu) (E := EE) (Q₁ := fun ob s1 => ∃ led : Bool, ob = .ref s.heap.objs.size ∧ s1 = { s with heap := s.heap.push (setOb led) }) fun led => ⟨led, rfl, rfl⟩) fun r s1 hr => ?_
  cases r with
  | error e => exact hr
  | ok fl =>
    cases fl with
    | ret ob =>
      obtain ⟨led, rfl, rfl⟩ := hr
      have gS : (s.heap.push (setOb led)).get? s.heap.objs.size = some (setOb led) := Heap.get?_push_size _ rfl
      have tS : Shared.TypeIs { s with heap := s.heap.push (setOb led) } (.ref s.heap.objs.size) "set" := ⟨_, gS, rfl⟩
      have i1 := F.called_set.init.lookup
      have i2 := F.called_set.init.bind (.ref s.heap.objs.size)
      repeat (any_goals (first | assumption | wp_step))
      refine codeAny_mono (codeAny_call_builtin (R := wants (fun r s2 => r = .none ∧ ∃ h' tk, s2 = { s with heap := h', toks := tk } ∧ h'.SetOf (strKind pr w) s.heap.objs.size (fun q => decide (q ∈ ys)) (ddS ys).length ∧ (∀ b o, b < s.heap.objs.size → s.heap.get? b = some o → h'.get? b = some o)) EE) F.called_set.init.plain F.entry_set_init (check_set_init_1 tS ?_)) fun r2 s2 hr2 => ?_
      · obtain ⟨ot, got, ct, nt, dt⟩ := ht
        obtain ⟨otc, otd, otx, ots⟩ := ot
        simp only at ct dt
        subst ct
        subst dt
        have got2 : (s.heap.push (setOb led)).get? tu = some { cls := .type "tuple", dict := otd, data := .seq its nt, slots := ots } := Heap.get?_push_of_some _ got
        have u1 := F.sub_tuple_set
        have u2 := F.sub_tuple_frozenset
        have u3 : (Value.type "tuple" == Value.type "dict") = false := by decide
        have tup1 : (s.heap.push (setOb led)).IsTuple tu its := ⟨_, got2, rfl, nt, rfl⟩
        unfold Builtin.«set.__init__» noKeywords Builtin.Frozenset.updateFrom
        generalize hPI : pyIter = PI
        wp_walk
        subst hPI
        refine wpAny_pyIter_tuple tup1 ?_
        refine wpAny_bind (wpAny_runValue ?_)
        have lt1 : tu < s.heap.objs.size := Heap.lt_size got
        have hd3 : B.in1.in1.in1.handled = none := by simp [hd]
        have ne1 : tu ≠ (s.heap.push (setOb led)).objs.size := by
          rw [Heap.size_push]
          exact Nat.ne_of_lt (Nat.lt_succ_of_lt lt1)
        have so1 : s.heap.objs.size ∉ [(s.heap.push (setOb led)).objs.size, tu] := by
          rw [Heap.size_push]
          simp only [List.mem_cons, List.mem_singleton, List.not_mem_nil, or_false, not_or]
          exact ⟨Nat.ne_of_lt (Nat.lt_succ_self _), Nat.ne_of_gt lt1⟩
        have len1 : ys.length = its.size := by rw [← StrsAre.len_eq hy, Array.length_toList]
        refine loop_texts ((Walks.tuple hd3 _ tu ne1 its).toS) s.heap.objs.size so1 ys len1 (by omega) (fun i v e => SS.strs_at hy i v (by rw [Array.getElem?_toList]; exact e)) (its.size - 0) 0 _ (by omega) (Nat.zero_le _)
          ⟨⟨_, Heap.get?_push_size _ rfl, rfl, rfl⟩, tup1.push _⟩ ?start ?done
        case start =>
          have g2 : ((s.heap.push (setOb led)).push { cls := .type "tuple_iterator", data := .fields #[.ref tu, .int 0 0] }).get? s.heap.objs.size = some (setOb led) := Heap.get?_push_of_some _ gS
          exact SetOf_congr ((setObjOf_fresh (knd := strKind pr w) led).setOf g2 (by unfold scanBound; omega)) (fun q => by simp) rfl
        case done =>
          intro s' mv hS
          obtain ⟨h', g', d', tk', os'⟩ := s'
          have eg : g' = s.gens := mv.gens
          have ed : d' = s.drawn := mv.drawn
          have eo : os' = s.os := mv.os
          subst eg
          subst ed
          subst eo
          refine wpAny_pure ?_
          show wpAny _ _ (ret Value.none) _ _ _
          refine wpAny_pure ⟨rfl, h', tk', rfl, hS, fun b o hb e => ?_⟩
          have n1 : b ≠ s.heap.objs.size := Nat.ne_of_lt hb
          have n2 : b ≠ (s.heap.push (setOb led)).objs.size := by
            rw [Heap.size_push]
            exact Nat.ne_of_lt (Nat.lt_succ_of_lt hb)
          exact mv.heap b o (by simp only [List.mem_cons, List.mem_singleton, List.not_mem_nil, or_false, not_or]; exact ⟨n1, n2⟩) (Heap.get?_push_of_some _ (Heap.get?_push_of_some _ e))
      · cases r2 with
        | error e => exact hr2
        | ok fl2 =>
          cases fl2 with
          | ret r =>
            obtain ⟨rfl, h', tk, rfl, hS, hk⟩ := hr2
            repeat (any_goals (first | assumption | wp_step))
            exact fin _ _ hS hk
          | _ => exact hr2.elim
    | _ => exact hr.elim
end
section
variable {X : Cx}
def tLenSetT (K : PySem.W.Frag) (ta : TE) : TE := fun σ H Q => ta σ H fun x H1 => ∃ (l : Addr) (ys : List Str), x = V.ref l ∧ SqT K H1 l (ys.map V.str) ∧ ys.length < 64 ∧ Q (.int ((ddS ys).length : Nat)) H1
theorem pe_lenSetT {a : Expr} {ta : TE} {p p2 q pos : Pos} (hc : X.calm = true) (hg : Gl X "len") (hm : X.mg "len" = none) (hg2 : Gl X "set") (hm2 : X.mg "set" = none) (ha : PE X a ta)
    (na : starEach [a] X.env = (false, eval a X.env) :: starEach [] X.env := by rfl) : PE X (.Call (.Name "len" p) [.Call (.Name "set" p2) [a] [] q] [] pos) (tLenSetT X.K ta) := by
  refine ⟨fun pins s σ H Q I h => ?_⟩
  refine Call_ (ld_blt I hg hm boot_len ?_)
  refine callWith_builtin1 (args_cons ?_ rfl) rfl rfl
  refine Call_ (ld_blt I hg2 hm2 boot_set ?_)
  refine callWith_type1 (args_cons (thn (ha.run pins s σ H _ I h) fun v s1 ⟨x, H1, I1, r1, q1⟩ => args_nil ?_) na) na rfl
  obtain ⟨l, ys, rfl, hq, few, q1⟩ := q1
  cases r1
  obtain ⟨its, r, pl, hz⟩ := I1.tuple hq
  have small := ddS_len ys
  refine call_set_texts (I1.ok.hd hc) pl (ys := ys) (by simpa using strsAre_of r) few fun h' tk hS hk => ?_
  refine args_nil ?_
  obtain ⟨o, es, ep, t, ho, hex, hd, _, _, _, hf, hn⟩ := hS
  have I2 : Inv X pins σ H1 { s1 with heap := h', toks := tk } := I1.kept fun b o e => hk b o (Heap.lt_size e) e
  exact call_len_set ho hex hd hf (by rw [hn] <;> omega) ⟨.int ((ddS ys).length : Nat), H1, I2.tok _, ⟨_, by rw [hn]⟩, q1⟩
end
end L2

set_option Elab.async false
set_option linter.all false
set_option maxRecDepth 100000
set_option maxHeartbeats 4000000
/-! SetStr: len(set(z)), z a text. -/
namespace L2
open PySem PySem.Spec PyProof.Rows
def signsS (x : Str) : List Str := x.cps.toList.map fun c => ⟨#[c]⟩
section
variable {pr : Program} {w : World} {B : Around} {RR : Result → Shared → Prop} {it : Addr} {fq ww : List Addr} {GG : Array GenState → Array GenState → Prop} {m : Nat} {PP : Nat → Value → Prop} {TT : Nat → Shared → Prop}
theorem loop_signs (U : WalksS pr w B.in1 it fq ww GG m PP TT) (so : Addr) (hso : so ∉ fq) (ys : List Str) (hys : ys.length = m) (few : m < 4000) (hv : ∀ i v, PP i v → ∃ t, v = .str (ys.getD i Str.empty) t) :
    ∀ (left i : Nat) (s : Shared), m - i = left → i ≤ m → TT i s → s.heap.SetOf (strKind pr w) so (fun q => decide (q ∈ ys.take i)) (ddS (ys.take i)).length →
      (∀ s', Moved (so :: ww) GG s s' → s'.heap.SetOf (strKind pr w) so (fun q => decide (q ∈ ys)) (ddS ys).length → RR (.ok (.ret .none)) s') →
      codeAny (model pr w) B (.builtin "set.update.loop" ⟨[.ref so, .ref it], []⟩) RR s := by
  have now : so ∉ ww := fun h => hso (U.sub _ h)
  have sub2 : ∀ b ∈ ww, b ∈ so :: ww := fun b hb => List.mem_cons_of_mem _ hb
  intro left
  induction left with
  | zero =>
    intro i s hl hi ht hS hR
    obtain rfl : i = m := by omega
    rw [← hys, List.take_length] at hS
    refine codeAny_builtin F.entry_set_update_loop ?_
    rw [Around.under_plainId F.plain_set_update_loop _]
    refine wpAny_bind (U.done s _ _ ht fun s' mv => ?_)
    obtain ⟨o, es, ep, tb, ho, rest⟩ := hS
    exact wpAny_pure (hR s' (mv.mono sub2) ⟨o, es, ep, tb, mv.heap so _ now ho, rest⟩)
  | succ left ih =>
    intro i s hl hi ht hS hR
    have him : i < m := by omega
    refine codeAny_builtin F.entry_set_update_loop ?_
    rw [Around.under_plainId F.plain_set_update_loop _]
    refine wpAny_bind (U.item i s _ _ him ht fun v s' hP ht' mv => ?_)
    obtain ⟨t, rfl⟩ := hv i v hP
    have hS' : s'.heap.SetOf (strKind pr w) so (fun q => decide (q ∈ ys.take i)) (ddS (ys.take i)).length := by
      obtain ⟨o, es, ep, tb, ho, rest⟩ := hS
      exact ⟨o, es, ep, tb, mv.heap so _ now ho, rest⟩
    have hlen := ddS_len (ys.take i)
    rw [List.length_take] at hlen
    refine wpAny_bind (wpAny_holding ?_)
    unfold setAdd
    refine wpAny_holding ?_
    refine wpAny_bind ((strKind pr w).pyHash (k := ys.getD i Str.empty) (strKind_is _ _ _ _) ?_)
    refine wpAny_setAddHashed_of (knd := strKind pr w) (s := { s' with toks := s'.toks + 1 }) (strKind_is _ _ _ _) rfl hS' (by unfold scanBound; omega) fun h' sb hS2 => ?_
    have ey : ys.take (i + 1) = ys.take i ++ [ys.getD i Str.empty] := by
      rw [List.take_succ, List.getD_eq_getElem?_getD, List.getElem?_eq_getElem (by omega)]
      rfl
    have hS3 : h'.SetOf (strKind pr w) so (fun q => decide (q ∈ ys.take (i + 1))) (ddS (ys.take (i + 1))).length := by
      rw [ey]
      refine SetOf_congr hS2 (fun q => ?_) ?_
      · by_cases h1 : q ∈ ys.take i
        · simp [h1]
        · simp [h1]
      · rw [ddS_snoc]
        by_cases h1 : ys.getD i Str.empty ∈ ys.take i
        · rw [if_pos ((ddS_mem _ _).mpr h1), if_pos (by simpa using h1)]
        · rw [if_neg (fun z => h1 ((ddS_mem _ _).mp z)), if_neg (by simpa using h1), List.length_append]
          rfl
    refine wpAny_pure ⟨plainId_quiet F.plain_set_update_loop _, ih (i + 1) _ (by omega) him (U.frame _ s' _ _ ht' (Nat.le_succ _) fun b hb o e => ?_) hS3 fun s2 mv2 hS4 => ?_⟩
    · rw [sb.2 b (fun z : b = so => hso (by rw [← z]; exact hb))]
      exact e
    · refine hR s2 (Moved.trans U.gtrans ((mv.mono sub2).then_heap (Nat.le_succ _) fun b o hb e => ?_) mv2) hS4
      rw [sb.2 b (fun z : b = so => hb (by rw [z]; exact List.mem_cons_self))]
      exact e
end
section
variable {pr : Program} {w : World} {B : Around} {EE : Value → Shared → Prop} {s : Shared}
theorem call_set_sign {x : Str} {tx : Tok} {QQ : Value → Shared → Prop} (hd : B.handled = none) (few : x.cps.size < 4000)
    (fin : ∀ (h' : Heap) (tk : Nat), h'.SetOf (strKind pr w) s.heap.objs.size (fun q => decide (q ∈ signsS x)) (ddS (signsS x)).length → (∀ b o, b < s.heap.objs.size → s.heap.get? b = some o → h'.get? b = some o) → QQ (.ref s.heap.objs.size) { s with heap := h', toks := tk }) :
    wpAny (model pr w) B (call (.type "set") [.str x tx]) QQ EE s := by
  obtain ⟨cc, tl, mro⟩ := F.called_set.mro
  have md := F.called_set.made
  have sb := F.called_set.sub
  refine wpAny_call (codeAny_of_tree ?_)
  show wpAny _ _ (callAny (.type "set") _) _ _ _
  refine wpAny_pure ⟨Code.quiet_builtin _ (by decide +kernel), codeAny_builtin F.entry_type_call ?_⟩
  rw [Around.under_plain (weight_type_call_type "set" [.str x tx] []) rfl]
  have q1 := F.called_set.notType
  have q2 := F.called_set.canCreate
  have q3 := F.typeCall_set_1 (.str x tx)
  repeat (any_goals (first | assumption | wp_step))
  refine codeAny_mono (code_set_new_1 (.str x tx) (E := EE) (Q₁ := fun ob s1 => ∃ led : Bool, ob = .ref s.heap.objs.size ∧ s1 = { s with heap := s.heap.push (setOb led) }) fun led => ⟨led, rfl, rfl⟩) fun r s1 hr => ?_
  cases r with
  | error e => exact hr
  | ok fl =>
    cases fl with
    | ret ob =>
      obtain ⟨led, rfl, rfl⟩ := hr
      have gS : (s.heap.push (setOb led)).get? s.heap.objs.size = some (setOb led) := Heap.get?_push_size _ rfl
      have tS : Shared.TypeIs { s with heap := s.heap.push (setOb led) } (.ref s.heap.objs.size) "set" := ⟨_, gS, rfl⟩
      have i1 := F.called_set.init.lookup
      have i2 := F.called_set.init.bind (.ref s.heap.objs.size)
      repeat (any_goals (first | assumption | wp_step))
      refine codeAny_mono (codeAny_call_builtin (R := wants (fun r s2 => r = .none ∧ ∃ h' tk, s2 = { s with heap := h', toks := tk } ∧ h'.SetOf (strKind pr w) s.heap.objs.size (fun q => decide (q ∈ signsS x)) (ddS (signsS x)).length ∧ (∀ b o, b < s.heap.objs.size → s.heap.get? b = some o → h'.get? b = some o)) EE) F.called_set.init.plain F.entry_set_init (check_set_init_1 tS ?_)) fun r2 s2 hr2 => ?_
      · have u1 : (Value.type "str" == Value.type "dict") = false := by decide
        have u2 := F.sub_str_set
        have u3 := F.sub_str_frozenset
        unfold Builtin.«set.__init__» noKeywords Builtin.Frozenset.updateFrom
        generalize hPI : pyIter = PI
        wp_walk
        subst hPI
        refine wpAny_pyIter_str fun o St W st0 => ?_
        refine wpAny_bind (wpAny_runValue ?_)
        have hd3 : B.in1.in1.in1.handled = none := by simp [hd]
        have so1 : s.heap.objs.size ∉ [(s.heap.push (setOb led)).objs.size] := by
          rw [Heap.size_push]
          simp only [List.mem_cons, List.mem_singleton, List.not_mem_nil, or_false, not_or]
          exact Nat.ne_of_lt (Nat.lt_succ_self _)
        have len1 : (signsS x).length = x.cps.size := by rw [signsS, List.length_map, Array.length_toList]
        refine loop_signs ((W _ hd3).toS) s.heap.objs.size so1 (signsS x) len1 (by omega) (fun i v ⟨c, u, e1, e2⟩ => ⟨u, by rw [e2, signsS, List.getD_eq_getElem?_getD, List.getElem?_map, Array.getElem?_toList, e1]; rfl⟩) (x.cps.size - 0) 0 _ (by omega) (Nat.zero_le _)
          st0 ?start ?done
        case start =>
          have g2 : ((s.heap.push (setOb led)).push o).get? s.heap.objs.size = some (setOb led) := Heap.get?_push_of_some _ gS
          exact SetOf_congr ((setObjOf_fresh (knd := strKind pr w) led).setOf g2 (by unfold scanBound; omega)) (fun q => by simp) rfl
        case done =>
          intro s' mv hS
          obtain ⟨h', g', d', tk', os'⟩ := s'
          have eg : g' = s.gens := mv.gens
          have ed : d' = s.drawn := mv.drawn
          have eo : os' = s.os := mv.os
          subst eg
          subst ed
          subst eo
          refine wpAny_pure ?_
          show wpAny _ _ (ret Value.none) _ _ _
          refine wpAny_pure ⟨rfl, h', tk', rfl, hS, fun b o hb e => ?_⟩
          have n1 : b ≠ s.heap.objs.size := Nat.ne_of_lt hb
          have n2 : b ≠ (s.heap.push (setOb led)).objs.size := by
            rw [Heap.size_push]
            exact Nat.ne_of_lt (Nat.lt_succ_of_lt hb)
          exact mv.heap b o (by simp only [List.mem_cons, List.mem_singleton, List.not_mem_nil, or_false, not_or]; exact ⟨n1, n2⟩) (Heap.get?_push_of_some _ (Heap.get?_push_of_some _ e))
      · cases r2 with
        | error e => exact hr2
        | ok fl2 =>
          cases fl2 with
          | ret r =>
            obtain ⟨rfl, h', tk, rfl, hS, hk⟩ := hr2
            repeat (any_goals (first | assumption | wp_step))
            exact fin _ _ hS hk
          | _ => exact hr2.elim
    | _ => exact hr.elim
end
section
variable {X : Cx}
def tLenSetS (ta : TE) : TE := fun σ H Q => ta σ H fun x H1 => ∃ z : Str, x = V.str z ∧ z.cps.size < 4000 ∧ Q (.int ((ddS (signsS z)).length : Nat)) H1
theorem pe_lenSetS {a : Expr} {ta : TE} {p p2 q pos : Pos} (hc : X.calm = true) (hg : Gl X "len") (hm : X.mg "len" = none) (hg2 : Gl X "set") (hm2 : X.mg "set" = none) (ha : PE X a ta)
    (na : starEach [a] X.env = (false, eval a X.env) :: starEach [] X.env := by rfl) : PE X (.Call (.Name "len" p) [.Call (.Name "set" p2) [a] [] q] [] pos) (tLenSetS ta) := by
  refine ⟨fun pins s σ H Q I h => ?_⟩
  refine Call_ (ld_blt I hg hm boot_len ?_)
  refine callWith_builtin1 (args_cons ?_ rfl) rfl rfl
  refine Call_ (ld_blt I hg2 hm2 boot_set ?_)
  refine callWith_type1 (args_cons (thn (ha.run pins s σ H _ I h) fun v s1 ⟨x, H1, I1, r1, q1⟩ => args_nil ?_) na) na rfl
  obtain ⟨z, rfl, few, q1⟩ := q1
  obtain ⟨tk0, rfl⟩ := r1
  have small := ddS_len (signsS z)
  have sl : (signsS z).length = z.cps.size := by rw [signsS, List.length_map, Array.length_toList]
  refine call_set_sign (I1.ok.hd hc) few fun h' tk hS hk => ?_
  refine args_nil ?_
  obtain ⟨o, es, ep, t, ho, hex, hd, _, _, _, hf, hn⟩ := hS
  have I2 : Inv X pins σ H1 { s1 with heap := h', toks := tk } := I1.kept fun b o e => hk b o (Heap.lt_size e) e
  exact call_len_set ho hex hd hf (by rw [hn]; omega) ⟨.int ((ddS (signsS z)).length : Nat), H1, I2.tok _, ⟨_, by rw [hn]⟩, q1⟩
end
end L2

set_option Elab.async false
set_option linter.all false
set_option maxRecDepth 100000
set_option maxHeartbeats 4000000
/-! StrKit: z * k and z[::-1] of texts. -/
namespace L2
open PySem PySem.Spec PyProof.Rows
/-- a text so many times -/
def repS (z : Str) (n : Nat) : Str := ⟨(List.replicate n z.cps.toList).flatten.toArray⟩
theorem foldl_app {α : Type} (xs : List (Array α)) (acc : Array α) : (xs.foldl (· ++ ·) acc).toList = acc.toList ++ (xs.map Array.toList).flatten := by
  induction xs generalizing acc with
  | nil => simp
  | cons x xs ih => rw [List.foldl_cons, ih, Array.toList_append, List.map_cons, List.flatten_cons, List.append_assoc]
theorem repS_list (z : Str) (n : Nat) : (repS z n).cps.toList = (List.replicate n z.cps.toList).flatten := rfl
theorem repS_len (z : Str) (n : Nat) : (repS z n).cps.toList.length = n * z.cps.toList.length := by
  rw [repS_list, List.length_flatten, List.map_replicate, List.sum_replicate_nat]
theorem mul_repS (z : Str) (k : Int) : Txt.mul z k = repS z k.toNat := by
  unfold Txt.mul repS
  by_cases h1 : k < 1
  · rw [if_pos h1, show k.toNat = 0 by omega]
    rfl
  · rw [if_neg h1]
    by_cases h2 : (k == 1 || z.length == 0) = true
    · rw [if_pos h2]
      rcases Bool.or_eq_true_iff.mp h2 with h | h
      · have : k = 1 := by simpa using h
        subst this
        obtain ⟨cs⟩ := z
        simp
      · have : z.length = 0 := by simpa using h
        have e : z.cps = #[] := Array.eq_empty_of_size_eq_zero this
        obtain ⟨cs⟩ := z
        simp only at e
        subst e
        simp
    · rw [if_neg h2]
      congr 1
      apply Array.ext'
      rw [foldl_app, List.map_replicate]
      simp
section
variable {X : Cx}
theorem op_mulS : OpR X (binaryOp .Mult) (fun x y H Q => ∃ z k, x = .str z ∧ y = .int k ∧ -(2 ^ 62) ≤ k ∧ k ≤ 2 ^ 24 ∧ z.cps.toList.length * k.toNat ≤ 2 ^ 24 ∧ Q (.str (repS z k.toNat)) H) := by
  intro pins s σ H x y v u Q I rx ry h
  obtain ⟨z, k, rfl, rfl, h1, h2, h3, q⟩ := h
  obtain ⟨t, rfl⟩ := rx
  obtain ⟨t', rfl⟩ := ry
  have hz : z.length = z.cps.toList.length := Array.length_toList.symm
  refine SB.mul ⟨?_, fun h4 h5 => ?_, fun h4 h5 => ?_⟩ fun t' tk => ⟨.str (repS z k.toNat), H, I.tok _, ⟨t', by rw [mul_repS]⟩, q⟩
  · have : ¬ k < -(2 ^ 63 : Int) := by omega
    have h : ¬ k ≥ (2 ^ 63 : Int) := by omega
    rw [decide_eq_false this, decide_eq_false h]
    rfl
  · have hk : 0 < k := by omega
    have : ((z.length : Nat) : Int) * k ≤ 2 ^ 24 := by
      rw [hz]
      have := Int.ofNat_le.mpr h3
      rw [Int.natCast_mul, Int.toNat_of_nonneg (by omega)] at this
      exact this
    have := Int.le_ediv_of_mul_le hk (Int.le_trans this (by decide : (2 : Int) ^ 24 ≤ 2 ^ 63 - 1))
    omega
  · unfold Builtin.Str.tooLong
    have : z.length * k.toNat ≤ 2 ^ 24 := by rw [hz]; exact h3
    simp only [sizeLine_eq]
    have h : ¬ z.length * k.toNat > 2 ^ 24 := by omega
    simp [h]
/-- z[::-1] -/
def revS (z : Str) : Str := ⟨z.cps.toList.reverse.toArray⟩
theorem revS_list (z : Str) : (revS z).cps.toList = z.cps.toList.reverse := rfl
def tRevS (te : TE) : TE := fun σ H Q => te σ H fun x H1 => ∃ z, x = .str z ∧ z.length ≤ sizeLine ∧ Q (.str (revS z)) H1
theorem pe_revS {e : Expr} {te : TE} {k : Nat} {p1 p2 p3 pos : Pos} (he : PE X e te) : PE X (.Subscript e (.Slice none none (some (.UnaryOp .USub (.Constant (.int 1) k p1) p2)) p3) pos) (tRevS te) := by
  refine ⟨fun pins s σ H Q I h => ?_⟩
  refine Subscript_ (thn (he.run pins s σ H _ I h) fun v s1 ⟨x, H1, I1, r1, q1⟩ => ?_)
  obtain ⟨z, ex, hz, q⟩ := q1
  subst ex
  obtain ⟨tz, rfl⟩ := r1
  have hst : PO X (some (.UnaryOp .USub (.Constant (.int 1) k p1) p2)) (tPart (tUn (rU fun i => .int (-i)) (tC (.int 1)))) := po_some (pe_un un_neg pe_int)
  refine wpAny_Slice (thn (po_none.run pins s1 σ H1 (fun o H2 => o = none ∧ H2 = H1) I1 ⟨rfl, rfl⟩) fun vl s2 ⟨l, H2, I2, pl, el, e2⟩ => ?_)
  subst el e2
  refine thn (po_none.run pins s2 σ H2 (fun o H3 => o = none ∧ H3 = H2) I2 ⟨rfl, rfl⟩) fun vu s3 ⟨u, H3, I3, pu, eu, e3⟩ => ?_
  subst eu e3
  refine thn (hst.run pins s3 σ H3 (fun o H4 => o = some (-1) ∧ H4 = H3) I3 ⟨1, rfl, -1, rfl, rfl, rfl⟩) fun vs s4 ⟨o, H4, I4, ps, eo, e4⟩ => ?_
  subst eo e4
  have I5 : Inv X pins σ H4 { s4 with heap := s4.heap.push { cls := .type "slice", data := .fields #[vl, vu, vs] } } := I4.kept (t' := s4.toks) fun b ob q => Heap.get?_push_of_some _ q
  show wpAny (model X.prog X.w) X.A (subscriptTail e (.Slice none none (some (.UnaryOp .USub (.Constant (.int 1) k p1) p2)) p3) (.str z tz) (.ref s4.heap.objs.size)) (EP X pins σ Q) X.xe { s4 with heap := s4.heap.push { cls := .type "slice", data := .fields #[vl, vu, vs] } }
  obtain ⟨l, rfl, e1⟩ := IsPart.raw pl
  obtain ⟨u, rfl, e2⟩ := IsPart.raw pu
  obtain ⟨st, rfl, e3⟩ := IsPart.raw ps
  have el : l = none := by cases l <;> simp_all
  have eu : u = none := by cases u <;> simp_all
  subst el eu
  refine tail_any (ops := [.str z tz, .ref s4.heap.objs.size]) (typeIs_str _ _ _) (F.slot_str_getitem.lookup) ?_ (by with_unfolding_all rfl)
  refine wpAny_getItem_str_slice (l := none) (u := none) (st := st) ⟨_, Heap.get?_push_size _ rfl, rfl, rfl⟩ (by rw [e3]; rfl) ?_
  have hp : ((Builtin.Str.strSliceIndices none none (-1) z.length).filterMap (z.cps[·]?)) = z.cps.toList.reverse := by
    unfold Builtin.Str.strSliceIndices
    show ((PySem.sliceRange ((z.length : Int) - 1) (-1) (-1)).filterMap (z.cps[·]?)) = _
    rw [PySem.W.krv_sliceRange, PySem.W.krv_range, List.filterMap_reverse]
    exact congrArg List.reverse (PySem.W.krv_all z.cps)
  have hl : (revS z).length ≤ sizeLine := by
    have : (revS z).length = z.length := by
      show (z.cps.toList.reverse.toArray).size = z.cps.size
      rw [List.size_toArray, List.length_reverse, Array.length_toList]
    omega
  unfold sliceMade slicePicked
  rw [e3]
  show Made.post (if ((-1 : Int) == 1 && _) = true then _ else Made.str ⟨((Builtin.Str.strSliceIndices none none (-1) z.length).filterMap (z.cps[·]?)).toArray⟩) _ _
  rw [hp, if_neg (by simp)]
  exact ⟨hl, .str (revS z), H4, I5.tok _, ⟨_, rfl⟩, q⟩
end
end L2

set_option Elab.async false
set_option linter.all false
set_option maxRecDepth 100000
set_option maxHeartbeats 4000000
/-! LcKit: comprehensions whose items are known one by one. -/
namespace L2
open PySem
/-- all but the lists stay -/
def KeepL (H H' : Hp) : Prop := ∀ b o, H b = some o → (∀ l, o ≠ .lst l) → H' b = some o
theorem KeepL.of {H H' : Hp} (s : ∀ b o, H b = some o → H' b = some o) : KeepL H H' := fun b o e _ => s b o e
theorem KeepL.trans {H H1 H2 : Hp} (s : KeepL H H1) (t : KeepL H1 H2) : KeepL H H2 := fun b o e n => t b o (s b o e n) n
inductive All2 {α β : Type} (R : α → β → Prop) : List α → List β → Prop
  | nil : All2 R [] []
  | cons {x : α} {z : β} {xs : List α} {zs : List β} (h : R x z) (t : All2 R xs zs) : All2 R (x :: xs) (z :: zs)
section
variable {α β : Type} {R : α → β → Prop}
theorem All2.length {xs : List α} {zs : List β} (h : All2 R xs zs) : xs.length = zs.length := by
  induction h with
  | nil => rfl
  | cons _ _ ih => rw [List.length_cons, List.length_cons, ih]
theorem All2.get {xs : List α} {zs : List β} (h : All2 R xs zs) {i : Nat} {x : α} (e : xs[i]? = some x) : ∃ z, zs[i]? = some z ∧ R x z := by
  induction h generalizing i with
  | nil => cases e
  | cons h t ih =>
    cases i with
    | zero => cases e; exact ⟨_, rfl, h⟩
    | succ i => exact ih e
theorem All2.getR {xs : List α} {zs : List β} (h : All2 R xs zs) {i : Nat} {z : β} (e : zs[i]? = some z) : ∃ x, xs[i]? = some x ∧ R x z := by
  induction h generalizing i with
  | nil => cases e
  | cons h t ih =>
    cases i with
    | zero => cases e; exact ⟨_, rfl, h⟩
    | succ i => exact ih e
theorem All2.append {xs ys : List α} {zs ws : List β} (h : All2 R xs zs) (g : All2 R ys ws) : All2 R (xs ++ ys) (zs ++ ws) := by
  induction h with
  | nil => exact g
  | cons h t ih => exact .cons h ih
theorem All2.mono {S : α → β → Prop} {xs : List α} {zs : List β} (h : All2 R xs zs) (m : ∀ x z, z ∈ zs → R x z → S x z) : All2 S xs zs := by
  induction h with
  | nil => exact .nil
  | cons h t ih => exact .cons (m _ _ List.mem_cons_self h) (ih fun x z hz r => m x z (List.mem_cons_of_mem _ hz) r)
theorem All2.drop {xs : List α} {zs : List β} (h : All2 R xs zs) : ∀ k : Nat, All2 R (xs.drop k) (zs.drop k)
  | 0 => h
  | k + 1 => by
    cases h with
    | nil => exact .nil
    | cons h t => exact t.drop k
theorem All2.take {xs : List α} {zs : List β} (h : All2 R xs zs) : ∀ k : Nat, All2 R (xs.take k) (zs.take k)
  | 0 => .nil
  | k + 1 => by
    cases h with
    | nil => exact .nil
    | cons h t => exact .cons h (t.take k)
theorem All2.map {γ : Type} {f : γ → α} {g : γ → β} : ∀ {cs : List γ}, (∀ c ∈ cs, R (f c) (g c)) → All2 R (cs.map f) (cs.map g)
  | [], _ => .nil
  | c :: cs, h => .cons (h c List.mem_cons_self) (All2.map fun d hd => h d (List.mem_cons_of_mem _ hd))
theorem All2.mem {xs : List α} {zs : List β} (h : All2 R xs zs) {x : α} (e : x ∈ xs) : ∃ z, z ∈ zs ∧ R x z := by
  obtain ⟨i, hi⟩ := List.mem_iff_getElem?.mp e
  obtain ⟨z, hz, r⟩ := h.get hi
  exact ⟨z, List.mem_of_getElem? hz, r⟩
/-- values that are told by what they are -/
theorem All2.eq_map {f : β → α} {xs : List α} {zs : List β} (h : All2 (fun x z => x = f z) xs zs) : xs = zs.map f := by
  induction h with
  | nil => rfl
  | cons h t ih => rw [List.map_cons, h, ih]
theorem All2.of_map {f : β → α} : ∀ zs : List β, All2 (fun x z => x = f z) (zs.map f) zs
  | [] => .nil
  | z :: zs => .cons rfl (All2.of_map zs)
end
theorem filter_take_succ {β γ : Type} {zs : List β} {i : Nat} {z : β} (e : zs[i]? = some z) (t : β → Bool) (f : β → γ) : ((zs.take (i + 1)).filter t).map f = ((zs.take i).filter t).map f ++ (if t z = true then [f z] else []) := by
  rw [List.take_succ, e, List.filter_append, List.map_append]
  congr 1
  by_cases h : t z = true
  · rw [if_pos h]
    simp [h]
  · rw [if_neg h]
    simp [h]
section
variable {K : PySem.W.Frag} {g : TG} {tt : TT} {te : TE} {vs : List Nat} {σ : St} {H1 : Hp} {D : Addr} {Qd : Hp → Prop} {α β : Type} {zs : List α} {R : Hp → V → α → Prop} {R' : Hp → V → β → Prop}
theorem sqT_same {H H' : Hp} {a : Addr} {xs : List V} (e : ∀ b o, H b = some o → H' b = some o) (h : SqT K H a xs) : SqT K H' a xs :=
  h.elim (fun h => .inl (h.elim (fun h => .inl (e _ _ h)) fun ⟨o, h⟩ => .inr ⟨o, e _ _ h⟩)) fun h => .inr h
theorem sqL_same {H H' : Hp} {a : Addr} {xs : List V} (e : ∀ b o, H b = some o → H' b = some o) (h : SqL K H a xs) : SqL K H' a xs :=
  h.elim (fun h => .inl (h.elim (fun h => .inl (e _ _ h)) fun ⟨o, h⟩ => .inr ⟨o, e _ _ h⟩)) fun h => .inr h
/-- one turn's wish -/
def LcP (H1 : Hp) (D : Addr) (R' : Hp → V → β → Prop) (zs : List α) (t : α → Bool) (f : α → β) (i : Nat) (H : Hp) : Prop := (∀ b o, H1 b = some o → H b = some o) ∧ ∃ ys, H D = some (.lst ys) ∧ All2 (R' H) ys (((zs.take i).filter t).map f)
theorem lcP_put {t : α → Bool} {f : α → β} {i : Nat} {z : α} {H H4 : Hp} {y : V} (hD : H1 D = none) (mR' : ∀ H H' x z, KeepL H H' → R' H x z → R' H' x z) (hz : zs.length < sizeLine) (e : zs[i]? = some z) (p : LcP H1 D R' zs t f i H) (ht : t z = true)
    (s : ∀ b o, H b = some o → H4 b = some o) (r : R' H4 y (f z)) : ∃ acc, H4 D = some (.lst acc) ∧ acc.length < sizeLine ∧ LcP H1 D R' zs t f (i + 1) (upd H4 D (.lst (acc ++ [y]))) := by
  obtain ⟨s1, ys, hd, a⟩ := p
  have kl : KeepL H4 (upd H4 D (.lst (ys ++ [y]))) := fun b o e n => by
    rw [upd_ne (fun q => by subst q; rw [s _ _ hd] at e; cases e; exact n _ rfl)]
    exact e
  have hlen := a.length
  rw [List.length_map] at hlen
  have h1 : ((zs.take i).filter t).length ≤ zs.length := Nat.le_trans (List.length_filter_le _ _) (by rw [List.length_take]; omega)
  refine ⟨ys, s _ _ hd, by omega, fun b o e => ?_, _, upd_same, ?_⟩
  · rw [upd_ne (ne_of_none e hD)]
    exact s _ _ (s1 _ _ e)
  · rw [filter_take_succ e, if_pos ht]
    exact (a.mono fun x z _ r => mR' _ _ _ _ kl (mR' _ _ _ _ (.of s) r)).append (.cons (mR' _ _ _ _ kl r) .nil)
theorem lcP_skip {t : α → Bool} {f : α → β} {i : Nat} {z : α} {H H3 : Hp} (mR' : ∀ H H' x z, KeepL H H' → R' H x z → R' H' x z) (e : zs[i]? = some z) (p : LcP H1 D R' zs t f i H) (ht : t z = false)
    (s : ∀ b o, H b = some o → H3 b = some o) : LcP H1 D R' zs t f (i + 1) H3 := by
  obtain ⟨s1, ys, hd, a⟩ := p
  refine ⟨fun b o e => s _ _ (s1 _ _ e), ys, s _ _ hd, ?_⟩
  rw [filter_take_succ e, if_neg (by rw [ht]; simp), List.append_nil]
  exact a.mono fun x z _ r => mR' _ _ _ _ (.of s) r
theorem lcP_zero {t : α → Bool} {f : α → β} (hD : H1 D = none) : LcP H1 D R' zs t f 0 (upd H1 D (.lst [])) := ⟨fun b o e => by rw [upd_ne (ne_of_none e hD)]; exact e, [], upd_same, .nil⟩
/-- over a list whose items are known -/
theorem lcM_list {a : Addr} {xs : List V} (t : α → Bool) (f : α → β) (hD : H1 D = none) (hS : SqL K H1 a xs) (hx : All2 (R H1) xs zs) (mR : ∀ H H' x z, (∀ b o, H b = some o → H' b = some o) → R H x z → R H' x z) (mR' : ∀ H H' x z, KeepL H H' → R' H x z → R' H' x z) (hz : zs.length < sizeLine)
    (step : ∀ (i : Nat) (x : V) (z : α) (H : Hp) (C : V → Hp → Prop) (C0 : Hp → Prop), zs[i]? = some z → (∀ b o, H1 b = some o → H b = some o) → R H x z →
      (t z = true → ∀ y H4, (∀ b o, H b = some o → H4 b = some o) → R' H4 y (f z) → C y H4) → (t z = false → ∀ H3, (∀ b o, H b = some o → H3 b = some o) → C0 H3) →
      g x (wipe σ vs) H fun σ2 H2 => wipe σ2 vs = wipe σ vs ∧ tt σ2 H2 fun b H3 => if b = true then te σ2 H3 C else C0 H3)
    (fin : ∀ ys H, (∀ b o, H1 b = some o → H b = some o) → H D = some (.lst ys) → All2 (R' H) ys ((zs.filter t).map f) → Qd H) :
    ∃ W : Nat → Nat → Hp → Prop, (∃ m, W 0 m (upd H1 D (.lst []))) ∧ ∀ i m H, W i m H →
      ((Itl K a).stop i H ∧ Qd H) ∨ ((Itl K a).go i H ∧ ∃ Nx : Hp → Prop, (∀ H', Nx H' → ∃ m', m' < m ∧ W (i + 1) m' H') ∧ ∀ x H', (Itl K a).yld i H x H' → g x (wipe σ vs) H' fun σ2 H2 => wipe σ2 vs = wipe σ vs ∧ tt σ2 H2 fun b H3 =>
        if b = true then te σ2 H3 fun y H4 => ∃ acc, H4 D = some (.lst acc) ∧ acc.length < sizeLine ∧ Nx (upd H4 D (.lst (acc ++ [y]))) else Nx H3) := by
  have el := hx.length
  refine lc_list (xs := xs) (LcP H1 D R' zs t f) (lcP_zero hD) (fun i H _ p => sqL_same p.1 hS) (fun i x H hi p => ?_) (fun H p => ?_)
  · obtain ⟨z, e, r⟩ := hx.get hi
    exact step i x z H _ _ e p.1 (mR _ _ _ _ p.1 r) (fun ht y H4 s r => lcP_put hD mR' hz e p ht s r) (fun ht H3 s => lcP_skip mR' e p ht s)
  · obtain ⟨s1, ys, hd, a2⟩ := p
    rw [el, List.take_length] at a2
    exact fin ys H s1 hd a2
/-- over a tuple -/
theorem lcM_tup {a : Addr} {xs : List V} (t : α → Bool) (f : α → β) (hD : H1 D = none) (hS : SqT K H1 a xs) (hx : All2 (R H1) xs zs) (mR : ∀ H H' x z, (∀ b o, H b = some o → H' b = some o) → R H x z → R H' x z) (mR' : ∀ H H' x z, KeepL H H' → R' H x z → R' H' x z) (hz : zs.length < sizeLine)
    (step : ∀ (i : Nat) (x : V) (z : α) (H : Hp) (C : V → Hp → Prop) (C0 : Hp → Prop), zs[i]? = some z → (∀ b o, H1 b = some o → H b = some o) → R H x z →
      (t z = true → ∀ y H4, (∀ b o, H b = some o → H4 b = some o) → R' H4 y (f z) → C y H4) → (t z = false → ∀ H3, (∀ b o, H b = some o → H3 b = some o) → C0 H3) →
      g x (wipe σ vs) H fun σ2 H2 => wipe σ2 vs = wipe σ vs ∧ tt σ2 H2 fun b H3 => if b = true then te σ2 H3 C else C0 H3)
    (fin : ∀ ys H, (∀ b o, H1 b = some o → H b = some o) → H D = some (.lst ys) → All2 (R' H) ys ((zs.filter t).map f) → Qd H) :
    ∃ W : Nat → Nat → Hp → Prop, (∃ m, W 0 m (upd H1 D (.lst []))) ∧ ∀ i m H, W i m H →
      ((Itt K a).stop i H ∧ Qd H) ∨ ((Itt K a).go i H ∧ ∃ Nx : Hp → Prop, (∀ H', Nx H' → ∃ m', m' < m ∧ W (i + 1) m' H') ∧ ∀ x H', (Itt K a).yld i H x H' → g x (wipe σ vs) H' fun σ2 H2 => wipe σ2 vs = wipe σ vs ∧ tt σ2 H2 fun b H3 =>
        if b = true then te σ2 H3 fun y H4 => ∃ acc, H4 D = some (.lst acc) ∧ acc.length < sizeLine ∧ Nx (upd H4 D (.lst (acc ++ [y]))) else Nx H3) := by
  have el := hx.length
  refine lc_tup (xs := xs) (LcP H1 D R' zs t f) (lcP_zero hD) (fun i H _ p => sqT_same p.1 hS) (fun i x H hi p => ?_) (fun H p => ?_)
  · obtain ⟨z, e, r⟩ := hx.get hi
    exact step i x z H _ _ e p.1 (mR _ _ _ _ p.1 r) (fun ht y H4 s r => lcP_put hD mR' hz e p ht s r) (fun ht H3 s => lcP_skip mR' e p ht s)
  · obtain ⟨s1, ys, hd, a2⟩ := p
    rw [el, List.take_length] at a2
    exact fin ys H s1 hd a2
/-- over a range -/
theorem lcM_range {lo : Int} {n : Nat} (t : Nat → Bool) (f : Nat → β) (hD : H1 D = none) (mR' : ∀ H H' x z, KeepL H H' → R' H x z → R' H' x z) (hz : n < sizeLine)
    (step : ∀ (i : Nat) (H : Hp) (C : V → Hp → Prop) (C0 : Hp → Prop), i < n → (∀ b o, H1 b = some o → H b = some o) →
      (t i = true → ∀ y H4, (∀ b o, H b = some o → H4 b = some o) → R' H4 y (f i) → C y H4) → (t i = false → ∀ H3, (∀ b o, H b = some o → H3 b = some o) → C0 H3) →
      g (.int (lo + i)) (wipe σ vs) H fun σ2 H2 => wipe σ2 vs = wipe σ vs ∧ tt σ2 H2 fun b H3 => if b = true then te σ2 H3 C else C0 H3)
    (fin : ∀ ys H, (∀ b o, H1 b = some o → H b = some o) → H D = some (.lst ys) → All2 (R' H) ys (((List.range n).filter t).map f) → Qd H) :
    ∃ W : Nat → Nat → Hp → Prop, (∃ m, W 0 m (upd H1 D (.lst []))) ∧ ∀ i m H, W i m H →
      ((Itr lo n).stop i H ∧ Qd H) ∨ ((Itr lo n).go i H ∧ ∃ Nx : Hp → Prop, (∀ H', Nx H' → ∃ m', m' < m ∧ W (i + 1) m' H') ∧ ∀ x H', (Itr lo n).yld i H x H' → g x (wipe σ vs) H' fun σ2 H2 => wipe σ2 vs = wipe σ vs ∧ tt σ2 H2 fun b H3 =>
        if b = true then te σ2 H3 fun y H4 => ∃ acc, H4 D = some (.lst acc) ∧ acc.length < sizeLine ∧ Nx (upd H4 D (.lst (acc ++ [y]))) else Nx H3) := by
  refine lc_range (LcP H1 D R' (List.range n) t f) (lcP_zero hD) (fun i H hi p => ?_) (fun H p => ?_)
  · have e : (List.range n)[i]? = some i := List.getElem?_range hi
    exact step i H _ _ hi p.1 (fun ht y H4 s r => lcP_put hD mR' (by rw [List.length_range]; exact hz) e p ht s r) (fun ht H3 s => lcP_skip mR' e p ht s)
  · obtain ⟨s1, ys, hd, a2⟩ := p
    have e2 : (List.range n).take n = List.range n := List.take_of_length_le (by rw [List.length_range]; exact Nat.le_refl _)
    rw [e2] at a2
    exact fin ys H s1 hd a2
end
end L2

set_option Elab.async false
set_option linter.all false
set_option maxRecDepth 100000
set_option maxHeartbeats 4000000
namespace T23
open PySem L2 EK
def letS : Str := "abcdefghijklmnopqrstuvwxyz"
/-- letters, so many at most -/
structure TxOk (m : Nat) (z : Str) : Prop where
  len : z.cps.toList.length ≤ m
  let_ : ∀ c ∈ z.cps.toList, c ∈ letS.cps.toList
theorem TxOk.mono {m n : Nat} {z : Str} (h : TxOk m z) (hm : m ≤ n) : TxOk n z := ⟨Nat.le_trans h.len hm, h.let_⟩
theorem cutS_take (z : Str) (k : Nat) : (cutS z none (some (k : Int))).cps.toList = z.cps.toList.take k := by
  show (((z.cps.toList.drop (HT.sIx z.length 0 none)).take (HT.sIx z.length z.length (some (k : Int)) - HT.sIx z.length 0 none))) = _
  rw [HT.sIx_none, HT.sIx_nat, List.drop_zero, Nat.sub_zero]
  have e : z.length = z.cps.toList.length := Array.length_toList.symm
  rw [e, Nat.min_def]
  split
  · rfl
  · rw [List.take_of_length_le (Nat.le_refl _), List.take_of_length_le (by omega)]
theorem cutS_drop (z : Str) (k : Nat) : (cutS z (some (k : Int)) none).cps.toList = z.cps.toList.drop k := by
  show (((z.cps.toList.drop (HT.sIx z.length 0 (some (k : Int)))).take (HT.sIx z.length z.length none - HT.sIx z.length 0 (some (k : Int))))) = _
  rw [HT.sIx_none, HT.sIx_nat]
  have e : z.length = z.cps.toList.length := Array.length_toList.symm
  rw [e, List.take_of_length_le (by rw [List.length_drop]; omega), Nat.min_def]
  split
  · rfl
  · rw [List.drop_of_length_le (Nat.le_refl _), List.drop_of_length_le (by omega)]
theorem cutS_mem (z : Str) (lo hi : Option Int) : ∀ c ∈ (cutS z lo hi).cps.toList, c ∈ z.cps.toList := fun c h => List.mem_of_mem_drop (List.mem_of_mem_take (show c ∈ ((z.cps.toList.drop (HT.sIx z.length 0 lo)).take (HT.sIx z.length z.length hi - HT.sIx z.length 0 lo)) from h))
theorem cutS_len (z : Str) (lo hi : Option Int) : (cutS z lo hi).cps.toList.length ≤ z.cps.toList.length := by
  have := cutS_length z lo hi
  rw [show (cutS z lo hi).length = (cutS z lo hi).cps.toList.length from Array.length_toList.symm, show z.length = z.cps.toList.length from Array.length_toList.symm] at this
  exact this
theorem joinL_nil : ∀ ys : List (List Nat), TL.joinL [] ys = ys.flatten
  | [] => rfl
  | [p] => by rw [List.flatten_cons, List.flatten_nil, List.append_nil]; rfl
  | p :: q :: r => (show p ++ TL.joinL [] (q :: r) = _ from by rw [joinL_nil (q :: r)]; rfl)
theorem join_list (ys : List Str) : (Txt.join "" ys).cps.toList = (ys.map fun y => y.cps.toList).flatten := by
  have e : ys = (ys.map fun y => y.cps.toList).map SX.S := by
    rw [List.map_map]
    exact (List.map_id' ys).symm.trans (List.map_congr_left fun y _ => (SX.S_tl y).symm)
  have h := SX.join_S [] (ys.map fun y => y.cps.toList)
  rw [← e, joinL_nil] at h
  exact congrArg (fun x : Str => x.cps.toList) h
theorem app_list (x y : Str) : (x ++ y).cps.toList = x.cps.toList ++ y.cps.toList := TL.tl_append x y
theorem sum_len (ys : List Str) : (ys.map (·.length)).sum = ((ys.map fun y => y.cps.toList).flatten).length := by
  rw [List.length_flatten, List.map_map]
  congr 1
theorem flat_mem {ys : List Str} {p : Nat → Prop} (h : ∀ y ∈ ys, ∀ c ∈ y.cps.toList, p c) : ∀ c ∈ ((ys.map fun y => y.cps.toList).flatten), p c := by
  intro c hc
  obtain ⟨l, hl, hcl⟩ := List.mem_flatten.mp hc
  obtain ⟨y, hy, rfl⟩ := List.mem_map.mp hl
  exact h y hy c hcl
theorem flat_len {ys : List Str} {k : Nat} (h : ∀ y ∈ ys, y.cps.toList.length ≤ k) : ((ys.map fun y => y.cps.toList).flatten).length ≤ ys.length * k := by
  induction ys with
  | nil => simp
  | cons y ys ih =>
    rw [List.map_cons, List.flatten_cons, List.length_append, List.length_cons, Nat.add_mul]
    have h1 := h y List.mem_cons_self
    have h2 := ih fun z hz => h z (List.mem_cons_of_mem _ hz)
    omega
theorem UrnAt.mono {H : Hp} {a : Addr} {n m : Int} (h : UrnAt H a n) (hm : n ≤ m) : UrnAt H a m := by
  obtain ⟨w0, w1, w2, e, h1, h2, h3, h4⟩ := h
  exact ⟨w0, w1, w2, e, h1, h2, h3, by omega⟩
theorem UrnAt.keep {H H' : Hp} {a : Addr} {n : Int} (h : UrnAt H a n) (s : ∀ o, H a = some o → H' a = some o) : UrnAt H' a n := by
  obtain ⟨w0, w1, w2, e, h1⟩ := h
  exact ⟨w0, w1, w2, s _ e, h1⟩
theorem UrnAt.ne0 {H : Hp} {a b : Addr} {n : Int} (h : UrnAt H a n) (hb : H b = none) : b ≠ a := fun e => by
  obtain ⟨w0, w1, w2, h1, _⟩ := h
  rw [e, h1] at hb
  cases hb
theorem KeepB.of {a : Addr} {H H' : Hp} (s : ∀ b o, H b = some o → H' b = some o) : KeepB a H H' := fun b o e _ => s b o e
theorem KeepB.rfl {a : Addr} {H : Hp} : KeepB a H H := fun _ _ e _ => e
structure TxtP (K : PySem.W.Frag) (mg : Str → Option Value) : Prop where
  len : mg "len" = none
  range : mg "range" = none
def spPick : Sp := fun vs H Q _ => ∃ (a : Addr) (n : Int) (x : V), vs = [.ref a, x] ∧ UrnAt H a n ∧ n ≤ 1000000 ∧
  ((∃ (l : Addr) (xs : List V), x = .ref l ∧ H l = some (.lst xs) ∧ l ≠ a ∧ 0 < xs.length ∧ xs.length ≤ 1000 ∧ ∀ (y : V) H', y ∈ xs → UrnAt H' a (n + 1) → KeepB a H H' → Q y H') ∨
   (∃ z : Str, x = .str z ∧ 0 < z.cps.toList.length ∧ z.cps.toList.length ≤ 1000 ∧ ∀ (c : Nat) H', c ∈ z.cps.toList → UrnAt H' a (n + 1) → KeepB a H H' → Q (.str ⟨#[c]⟩) H'))
def spText : Sp := fun vs H Q _ => ∃ (a : Addr) (n : Int) (m : Nat), vs = [.ref a, .int m] ∧ UrnAt H a n ∧ n ≤ 900000 ∧ m ≤ 300 ∧ ∀ z H', TxOk m z → UrnAt H' a (n + 700) → KeepB a H H' → Q (.str z) H'
abbrev NTX : List Str := ["_law_urn_here", "_law_most", "_law_every", "_law_letters", "_law_size", "_law_way", "_law_unit", "_law_one", "_law_other", "_law_turn", "_law_k"]
section
variable {P : Program} {w : World} {K : PySem.W.Frag} {mg : Str → Option Value} {base : Heap}
theorem scPick : FnScope ["_law_urn_here", "_law_some"] ["_law_urn_here", "_law_some"] (defScope sPick) := ⟨rfl, rfl, rfl, by decide +kernel, rfl, by decide +kernel, by decide +kernel⟩
theorem scText : FnScope NTX ["_law_urn_here", "_law_most"] (defScope sText) := ⟨rfl, rfl, rfl, by decide +kernel, rfl, by decide +kernel, by decide +kernel⟩
theorem ok_pick {f fP : Addr} {fd fdP : FuncData} (F : Fun K "_law_pick" "_law_pick" sPick f fd) (T : TxtP K mg)
    (GP : FnOk P w K mg base CX0 1 fP fdP ["_law_urn_here", "_law_many"] spPull) (gP : mg "_law_pull" = some (.ref fP)) (kP : PySem.W.keepIn K (.ref fP) = true) (bP : Binds K fdP ["_law_urn_here", "_law_many"] []) :
    FnOk P w K mg base CX0 2 f fd ["_law_urn_here", "_law_some"] spPick := by
  refine F.ok scPick (fun vs H Q E h => ?_) (fun cdv A outer s H vs Q E hr h => ?_)
  · obtain ⟨a, n, x, rfl, _⟩ := h
    rfl
  · obtain ⟨a, n, x, rfl, hw, hn, h⟩ := h
    rcases h with ⟨l, xs, rfl, hl, hla, h1, h2, k⟩ | ⟨z, rfl, h1, h2, k⟩
    · refine ⟨_, pss_one (ps_ret (pe_ix ix_list (pv 1) (pe_call GP hr rfl gP kP bP .nil pass0 (pa_cons (pv 0) (pa_cons (pe_callB call_len_seq (by rfl) T.len (by decide +kernel) (pa_cons (pv 1) pa_nil)) pa_nil))) (fun _ _ => rfl))), ?_⟩
      refine ⟨_, rfl, _, rfl, _, rfl, l, xs, rfl, .inl (.of hl), a, _, n, rfl, hw, hn, by omega, by omega, fun d H' hd hd2 hw' hk => ?_⟩
      obtain ⟨j, rfl⟩ : ∃ j : Nat, d = (j : Int) := ⟨d.toNat, by omega⟩
      have hj : j < xs.length := by omega
      refine ⟨l, xs, _, xs[j], rfl, rfl, .of (hk l _ hl hla), atI_nat (List.getElem?_eq_getElem hj), ?_⟩
      exact k _ _ (List.getElem_mem hj) hw' hk
    · have hz : sizeLine = 2 ^ 24 := sizeLine_eq
      have hzl : z.length = z.cps.toList.length := Array.length_toList.symm
      refine ⟨_, pss_one (ps_ret (pe_ix ix_str (pv 1) (pe_call GP hr rfl gP kP bP .nil pass0 (pa_cons (pv 0) (pa_cons (pe_callB call_len_str (by rfl) T.len (by decide +kernel) (pa_cons (pv 1) pa_nil)) pa_nil))) (fun _ _ => rfl))), ?_⟩
      refine ⟨_, rfl, _, rfl, _, rfl, z, rfl, by omega, a, _, n, rfl, hw, hn, by omega, by omega, fun d H' hd hd2 hw' hk => ?_⟩
      obtain ⟨j, rfl⟩ : ∃ j : Nat, d = (j : Int) := ⟨d.toNat, by omega⟩
      have hj : j < z.cps.toList.length := by omega
      refine ⟨z, _, z.cps.toList[j], rfl, rfl, by omega, atI_nat (List.getElem?_eq_getElem hj), ?_⟩
      exact k _ _ (List.getElem_mem hj) hw' hk
def lets7 : List Str := ["a", "ab", "ab", "abc", "aqz", "hgfedcba", "abcdefghijklmnopqrstuvwxyz"]
theorem good7 : ∀ L ∈ lets7, (decide (0 < L.cps.toList.length) && decide (L.cps.toList.length ≤ 26) && L.cps.toList.all fun c => decide (c ∈ letS.cps.toList)) = true := by decide +kernel
/-- drawn signs, one by one -/
def PkP (H1 : Hp) (a : Addr) (D : Addr) (n : Int) (q k : Nat) (i : Nat) (H : Hp) : Prop := UrnAt H a (n + (q * i : Nat)) ∧ KeepB a H1 H ∧ ∃ ys : List Str, H D = some (.lst (ys.map V.str)) ∧ ys.length = i ∧ ∀ y ∈ ys, y.cps.toList.length ≤ k ∧ ∀ c ∈ y.cps.toList, c ∈ letS.cps.toList
theorem pk_zero {H1 : Hp} {a D : Addr} {n : Int} {q k : Nat} (hw : UrnAt H1 a n) (nD : H1 D = none) : PkP H1 a D n q k 0 (upd H1 D (.lst [])) := by
  have s : ∀ b o, H1 b = some o → upd H1 D (.lst []) b = some o := fun b o e => by rw [upd_ne (ne_of_none e nD)]; exact e
  exact ⟨(hw.keep (s a)).mono (by omega), .of s, [], upd_same, rfl, fun y hy => (by cases hy)⟩
theorem pk_step {H1 H3 H4 : Hp} {a D : Addr} {n n0 : Int} {q k i : Nat} {y : Str} (nD : H1 D = none) (hw : UrnAt H1 a n0) (p : PkP H1 a D n q k i H3) (hk : KeepB a H3 H4) (hu : UrnAt H4 a (n + (q * (i + 1) : Nat))) (hi : i ≤ 1000000) (hy : y.cps.toList.length ≤ k ∧ ∀ c ∈ y.cps.toList, c ∈ letS.cps.toList) :
    ∃ acc, H4 D = some (.lst acc) ∧ acc.length < sizeLine ∧ PkP H1 a D n q k (i + 1) (upd H4 D (.lst (acc ++ [.str y]))) := by
  obtain ⟨_, k1, ys, hd, hl, hg⟩ := p
  have hDa : D ≠ a := fun e => by
    obtain ⟨_, _, _, e2, _⟩ := hw
    rw [e, e2] at nD
    cases nD
  have hz : sizeLine = 2 ^ 24 := sizeLine_eq
  refine ⟨_, hk _ _ hd hDa, by rw [List.length_map]; omega, hu.keep fun o e => by rw [upd_ne (Ne.symm hDa)]; exact e, fun b o e hb => ?_, ys ++ [y], by rw [upd_same, List.map_append]; rfl, by rw [List.length_append, hl]; rfl, fun z hz => ?_⟩
  · rw [upd_ne (ne_of_none e nD)]
    exact hk _ _ (k1 _ _ e hb) hb
  · rcases List.mem_append.mp hz with h | h
    · exact hg z h
    · rw [List.mem_singleton.mp h]
      exact hy
theorem pk_sign {L : Str} (h : ∀ c ∈ L.cps.toList, c ∈ letS.cps.toList) {c : Nat} (hc : c ∈ L.cps.toList) : (⟨#[c]⟩ : Str).cps.toList.length ≤ 1 ∧ ∀ d ∈ (⟨#[c]⟩ : Str).cps.toList, d ∈ letS.cps.toList := ⟨Nat.le_refl _, fun d hd => by
  rw [List.mem_singleton.mp hd]
  exact h c hc⟩
theorem ok_text {f fP fI : Addr} {fd fdP fdI : FuncData} (F : Fun K "_law_text" "_law_text" sText f fd) (T : TxtP K mg)
    (GP : FnOk P w K mg base CX0 1 fP fdP ["_law_urn_here", "_law_many"] spPull) (gP : mg "_law_pull" = some (.ref fP)) (kP : PySem.W.keepIn K (.ref fP) = true) (bP : Binds K fdP ["_law_urn_here", "_law_many"] [])
    (GI : FnOk P w K mg base CX0 2 fI fdI ["_law_urn_here", "_law_some"] spPick) (gI : mg "_law_pick" = some (.ref fI)) (kI : PySem.W.keepIn K (.ref fI) = true) (bI : Binds K fdI ["_law_urn_here", "_law_some"] []) :
    FnOk P w K mg base CX0 3 f fd ["_law_urn_here", "_law_most"] spText := by
  refine F.ok scText (fun vs H Q E h => ?_) (fun cdv A outer s H vs Q E hr h => ?_)
  · obtain ⟨a, n, m, rfl, _⟩ := h
    rfl
  · obtain ⟨a, n, m, rfl, hw, hn, hm, k⟩ := h
    have nd := scText.nd
    have hr2 : Room 2 _ := hr
    have hr1 : Room 1 _ := hr.mono (by decide)
    have hz : sizeLine = 2 ^ 24 := sizeLine_eq
    refine ⟨_, (pss_cons (ps_set (i := 2) nd rfl (Or.inl rfl) pe_str)
      (pss_cons (ps_set (i := 3) nd rfl (Or.inr rfl) (pe_call GI hr2 rfl gI kI bI .nil pass0 (pa_cons (pv 0) (pa_cons (pe_lst (pa_cons pe_str (pa_cons pe_str (pa_cons pe_str (pa_cons pe_str (pa_cons pe_str (pa_cons pe_str (pa_cons (pv 2) pa_nil)))))))) pa_nil))))
      (pss_cons (ps_par (i := 4) (j := 5) (by rfl) nd rfl rfl (by decide) rfl rfl (pa_cons (pe_call GP hr1 rfl gP kP bP .nil pass0 (pa_cons (pv 0) (pa_cons (pe_op op_add (pv 1) pe_int) pa_nil))) (pa_cons (pe_call GP hr1 rfl gP kP bP .nil pass0 (pa_cons (pv 0) (pa_cons pe_int pa_nil))) pa_nil)) (by rfl))
      (pss_cons (ps_if (pt_cmpR op_eq (pv 5) pe_int (nomark _)) (pss_cons (ps_set (i := 6) nd rfl (Or.inl rfl) (pe_join pe_str (pe_lc (own := [("_law_k", 10)]) (g := gName 10) (tt := tYes) rfl nd (pi_range1 (by rfl) T.range (pa_cons (pe_op op_add pe_int (pe_call GP hr1 rfl gP kP bP .nil pass0 (pa_cons (pv 0) (pa_cons pe_int pa_nil)))) pa_nil)) (blkOk_by (N := NTX) (sc := defScope sText) (by decide +kernel)) (fun _ _ _ _ _ => (pg_name (i := 10) nd rfl (Or.inl rfl))) (fun _ _ _ _ _ => pts_nil) (fun _ _ _ _ _ => (pe_call GI hr2 rfl gI kI bI .nil pass0 (pa_cons (pv 0) (pa_cons (pv 3) pa_nil)))))))
      (pss_one (ps_ret (pe_slice sl_str (pe_op op_mulS (pv 6) (pe_op op_add (pv 4) pe_int)) po_none (po_some (pv 4)))))) pss_nil)
      (pss_cons (ps_if (pt_cmpR op_eq (pv 5) pe_int (nomark _)) (pss_one (ps_ret (pe_slice sl_str (pe_join pe_str (pe_lc (own := [("_law_k", 10)]) (g := gName 10) (tt := tYes) rfl nd (pi_range1 (by rfl) T.range (pa_cons (pv 4) pa_nil)) (blkOk_by (N := NTX) (sc := defScope sText) (by decide +kernel)) (fun _ _ _ _ _ => (pg_name (i := 10) nd rfl (Or.inl rfl))) (fun _ _ _ _ _ => pts_nil) (fun _ _ _ _ _ => (pe_op op_mulS (pe_call GI hr2 rfl gI kI bI .nil pass0 (pa_cons (pv 0) (pa_cons (pv 3) pa_nil))) (pe_op op_add pe_int (pe_call GP hr1 rfl gP kP bP .nil pass0 (pa_cons (pv 0) (pa_cons pe_int pa_nil)))))))) po_none (po_some (pv 4))))) pss_nil)
      (pss_cons (ps_if (pt_cmpR op_eq (pv 5) pe_int (nomark _)) (pss_cons (ps_par (i := 7) (j := 8) (by rfl) nd rfl rfl (by decide) rfl rfl (pa_cons (pe_slice sl_str (pv 3) po_none (po_some pe_int)) (pa_cons (pe_op op_add_str (pe_slice sl_str (pv 3) (po_some (pe_un un_neg pe_int)) po_none) (pe_slice sl_str (pv 3) po_none (po_some pe_int))) pa_nil)) (by rfl))
      (pss_cons (ps_for PassesOwn.never rfl (pi_range1 (by rfl) T.range (pa_cons pe_int pa_nil)) (pg_name (i := 9) nd rfl (Or.inl rfl)) (pss_one (ps_par (i := 7) (j := 8) (by rfl) nd rfl rfl (by decide) rfl rfl (pa_cons (pv 8) (pa_cons (pe_op op_add_str (pv 8) (pv 7)) pa_nil)) (by rfl))))
      (pss_one (ps_ret (pe_slice sl_str (pv 8) po_none (po_some (pv 4))))))) pss_nil)
      (pss_one (ps_ret (pe_join pe_str (pe_lc (own := [("_law_k", 10)]) (g := gName 10) (tt := tYes) rfl nd (pi_range1 (by rfl) T.range (pa_cons (pv 4) pa_nil)) (blkOk_by (N := NTX) (sc := defScope sText) (by decide +kernel)) (fun _ _ _ _ _ => (pg_name (i := 10) nd rfl (Or.inl rfl))) (fun _ _ _ _ _ => pts_nil) (fun _ _ _ _ _ => (pe_call GI hr2 rfl gI kI bI .nil pass0 (pa_cons (pv 0) (pa_cons (pv 3) pa_nil))))))))))))))
, ?_⟩
    refine ⟨_, rfl, ?_⟩
    refine ⟨_, rfl, (by show 7 ≤ sizeLine; decide), fun p1 z1 => ?_⟩
    have A2 : upd H p1 (.lst (lets7.map V.str)) p1 = some (.lst (lets7.map V.str)) := upd_same
    have S2 : ∀ b o, H b = some o → upd H p1 (.lst (lets7.map V.str)) b = some o := fun b o e => by rw [upd_ne (ne_of_none e z1)]; exact e
    obtain ⟨w0, w1, w2, hwa, hwb⟩ := hw
    have hpa : p1 ≠ a := fun e => by rw [e, hwa] at z1; cases z1
    have hw2 : UrnAt (upd H p1 (.lst (lets7.map V.str))) a n := ⟨w0, w1, w2, S2 _ _ hwa, hwb⟩
    refine ⟨a, n, _, rfl, hw2, by omega, .inl ⟨p1, lets7.map V.str, rfl, A2, hpa, (by decide), (by decide), fun y H3 hy hw3 hk3 => ?_⟩⟩
    obtain ⟨L, hL, rfl⟩ := List.mem_map.mp (show y ∈ lets7.map V.str from hy)
    have g7 := good7 L hL
    rw [Bool.and_eq_true, Bool.and_eq_true, decide_eq_true_eq, decide_eq_true_eq, List.all_eq_true] at g7
    obtain ⟨⟨L0, L1⟩, L2'⟩ := g7
    have L2 : ∀ c ∈ L.cps.toList, c ∈ letS.cps.toList := fun c hc => of_decide_eq_true (L2' c hc)
    have hk13 : KeepB a H H3 := (KeepB.of S2).trans hk3
    refine ⟨_, rfl, _, rfl, _, _, rfl, rfl, a, _, _, rfl, hw3, by omega, by omega, by omega, fun d1 H4 d1a d1b hw4 hk4 => ?_⟩
    refine ⟨_, rfl, a, _, _, rfl, hw4, by omega, by decide, by decide, fun d2 H5 d2a d2b hw5 hk5 => ?_⟩
    have hk15 : KeepB a H H5 := (hk13.trans hk4).trans hk5
    obtain ⟨sz, rfl⟩ : ∃ j : Nat, d1 = (j : Int) := ⟨d1.toNat, by omega⟩
    have hsz : sz ≤ m := by omega
    refine ⟨_, _, rfl, _, rfl, rfl, _, rfl, ?_⟩
    refine ite2 (fun h0 => ?_) (fun h0 => ?_)
    · refine ⟨⟨_, rfl⟩, _, rfl, a, _, _, rfl, hw5, by omega, by decide, by decide, fun d3 H6 d3a d3b hw6 hk6 => ?_⟩
      obtain ⟨c3, hc3⟩ : ∃ j : Nat, (1 + d3).toNat = j := ⟨_, rfl⟩
      have hc3b : c3 ≤ 6 := by omega
      refine ⟨_, _, rfl, rfl, _, rfl, by omega, by omega, fun D nD => ?_⟩
      rw [hc3]
      refine lc_range (lo := 0) (n := c3) (PkP H6 a D (n + 4) 1 1) (pk_zero (hw6.mono (by omega)) nD) ?_ ?_
      · rintro i H7 hi p7
        refine ⟨rfl, _, rfl, _, rfl, a, _, _, rfl, p7.1, by omega, .inr ⟨L, rfl, L0, by omega, fun c H8 hc hw8 hk8 => ?_⟩⟩
        exact pk_step nD hw6 p7 hk8 (hw8.mono (by omega)) (by omega) (pk_sign L2 hc)
      · rintro H7 ⟨hw7, hk7, ys, hD, hyl, hyg⟩
        have f1 := flat_len fun y hy => (hyg y hy).1
        have f2 := flat_mem fun y hy => (hyg y hy).2
        refine ⟨_, _, ys, rfl, rfl, .inl (.of hD), ?_, ?_⟩
        · rw [sum_len]
          show _ + ys.length * 0 ≤ _
          omega
        have hjl := join_list ys
        refine ⟨_, rfl, _, rfl, _, _, rfl, rfl, _, _, rfl, rfl, by omega, by omega, ?_, ?_⟩
        · rw [hjl]
          have e : ((sz : Int) + 1).toNat = sz + 1 := by omega
          rw [e]
          exact Nat.le_trans (Nat.mul_le_mul (show _ ≤ 6 by omega) (show sz + 1 ≤ 301 by omega)) (by decide)
        · refine ⟨_, rfl, _, rfl, _, rfl, ?_, ?_⟩
          · rw [show (repS (Txt.join "" ys) _).length = _ from Array.length_toList.symm, repS_len, hjl]
            have e : ((sz : Int) + 1).toNat = sz + 1 := by omega
            rw [e]
            have := Nat.mul_le_mul (show sz + 1 ≤ 301 by omega) (show ((ys.map fun y => y.cps.toList).flatten).length ≤ 6 by omega)
            omega
          · refine k _ _ ⟨?_, ?_⟩ (hw7.mono (by omega)) (hk15.trans (hk6.trans hk7))
            · rw [cutS_take, List.length_take]
              omega
            · intro c hc
              have hc := cutS_mem _ _ _ c hc
              rw [repS_list] at hc
              obtain ⟨l, hl, hcl⟩ := List.mem_flatten.mp hc
              rw [(List.mem_replicate.mp hl).2, hjl] at hcl
              exact f2 c hcl
    refine ⟨_, rfl, rfl, _, rfl, ?_⟩
    refine ite2 (fun h1 => ?_) (fun h1 => ?_)
    · refine ⟨⟨_, rfl⟩, _, rfl, _, rfl, by omega, by omega, fun D nD => ?_⟩
      have en : ((sz : Int)).toNat = sz := by omega
      rw [en]
      refine lc_range (lo := 0) (n := sz) (PkP H5 a D (n + 3) 2 4) (pk_zero (hw5.mono (by omega)) nD) ?_ ?_
      · rintro i H7 hi p7
        refine ⟨rfl, _, rfl, _, rfl, a, _, _, rfl, p7.1, by omega, .inr ⟨L, rfl, L0, by omega, fun c H8 hc hw8 hk8 => ?_⟩⟩
        refine ⟨_, rfl, a, _, _, rfl, hw8, by omega, by decide, by decide, fun d3 H9 d3a d3b hw9 hk9 => ?_⟩
        refine ⟨_, _, rfl, rfl, _, _, rfl, rfl, by omega, by omega, ?_, ?_⟩
        · show 1 * _ ≤ _
          omega
        have h4 : (repS ⟨#[c]⟩ (1 + d3).toNat).cps.toList.length ≤ 4 := by
          rw [repS_len]
          show _ * 1 ≤ 4
          omega
        refine pk_step nD hw5 p7 (hk8.trans hk9) (hw9.mono (by omega)) (by omega) ⟨h4, fun x hx => ?_⟩
        rw [repS_list] at hx
        obtain ⟨l, hl, hcl⟩ := List.mem_flatten.mp hx
        rw [(List.mem_replicate.mp hl).2] at hcl
        exact (pk_sign L2 hc).2 x hcl
      · rintro H7 ⟨hw7, hk7, ys, hD, hyl, hyg⟩
        have f1 := flat_len fun y hy => (hyg y hy).1
        have f2 := flat_mem fun y hy => (hyg y hy).2
        have hjl := join_list ys
        refine ⟨_, _, ys, rfl, rfl, .inl (.of hD), ?_, ?_⟩
        · rw [sum_len]
          show _ + ys.length * 0 ≤ _
          omega
        refine ⟨_, rfl, _, rfl, _, rfl, ?_, ?_⟩
        · rw [show (Txt.join "" ys).length = _ from Array.length_toList.symm, hjl]
          omega
        · refine k _ _ ⟨?_, ?_⟩ (hw7.mono (by omega)) (hk15.trans hk7)
          · rw [cutS_take, List.length_take]
            omega
          · intro c hc
            have hc := cutS_mem _ _ _ c hc
            rw [hjl] at hc
            exact f2 c hc
    refine ⟨_, rfl, rfl, _, rfl, ?_⟩
    refine ite2 (fun h2 => ?_) (fun h2 => ?_)
    · have hL26 : L.length ≤ sizeLine := by
        rw [show L.length = _ from Array.length_toList.symm]
        omega
      have c1 : (cutS L none (some 1)).cps.toList.length ≤ 1 := by
        rw [show (some 1 : Option Int) = some ((1 : Nat) : Int) from rfl, cutS_take, List.length_take]
        omega
      have c2 := cutS_len L (some (-1)) none
      refine ⟨_, rfl, 1, rfl, L, rfl, hL26, _, rfl, 1, rfl, -1, rfl, L, rfl, hL26, _, rfl, 1, rfl, L, rfl, hL26, _, _, rfl, rfl, ?_, _, _, rfl, ?_⟩
      · rw [show (cutS L (some (-1)) none).length = _ from Array.length_toList.symm, show (cutS L none (some 1)).length = _ from Array.length_toList.symm]
        omega
      refine ⟨_, rfl, by decide, by decide, for_range (lo := 0) (n := 10) (fun i σ H' => H' = H5 ∧ ∃ (x y : Str) (v9 : Option V), σ = [some (.ref a), some (.int m), some (.str "abcdefghijklmnopqrstuvwxyz"), some (.str L), some (.int sz), some (.int d2), none, some (.str x), some (.str y), v9, none] ∧
        x.cps.toList.length ≤ 27 * 2 ^ i ∧ y.cps.toList.length ≤ 27 * 2 ^ i ∧ (∀ c ∈ x.cps.toList, c ∈ letS.cps.toList) ∧ ∀ c ∈ y.cps.toList, c ∈ letS.cps.toList) ⟨rfl, _, _, none, rfl, by omega, ?_, fun c hc => L2 c (cutS_mem _ _ _ c hc), fun c hc => ?_⟩ ?_ ?_⟩
      · rw [app_list, List.length_append]
        omega
      · rw [app_list] at hc
        rcases List.mem_append.mp hc with h | h
        · exact L2 c (cutS_mem _ _ _ c h)
        · exact L2 c (cutS_mem _ _ _ c h)
      · rintro i σ H7 hi ⟨rfl, x, y, v9, rfl, hx, hy, gx, gy⟩
        have hp : 2 ^ i ≤ 2 ^ 9 := Nat.pow_le_pow_right (by decide) (by omega)
        have hp1 : 2 ^ (i + 1) = 2 * 2 ^ i := by rw [Nat.pow_succ, Nat.mul_comm]
        refine ⟨_, rfl, _, rfl, _, rfl, _, _, rfl, rfl, ?_, _, _, rfl, rfl, _, _, _, rfl, by omega, ?_, gy, fun c hc => ?_⟩
        · rw [show y.length = _ from Array.length_toList.symm, show x.length = _ from Array.length_toList.symm]
          omega
        · rw [app_list, List.length_append]
          omega
        · rw [app_list] at hc
          rcases List.mem_append.mp hc with h | h
          · exact gy c h
          · exact gx c h
      · rintro σ H7 ⟨rfl, x, y, v9, rfl, hx, hy, gx, gy⟩
        refine ⟨_, rfl, _, rfl, _, rfl, _, rfl, ?_, ?_⟩
        · rw [show y.length = _ from Array.length_toList.symm]
          omega
        · refine k _ _ ⟨?_, fun c hc => gy c (cutS_mem _ _ _ c hc)⟩ (hw5.mono (by omega)) hk15
          rw [cutS_take, List.length_take]
          omega
    refine ⟨⟨_, rfl⟩, _, rfl, _, rfl, by omega, by omega, fun D nD => ?_⟩
    have en : ((sz : Int)).toNat = sz := by omega
    rw [en]
    refine lc_range (lo := 0) (n := sz) (PkP H5 a D (n + 3) 1 1) (pk_zero (hw5.mono (by omega)) nD) ?_ ?_
    · rintro i H7 hi p7
      refine ⟨rfl, _, rfl, _, rfl, a, _, _, rfl, p7.1, by omega, .inr ⟨L, rfl, L0, by omega, fun c H8 hc hw8 hk8 => ?_⟩⟩
      exact pk_step nD hw5 p7 hk8 (hw8.mono (by omega)) (by omega) (pk_sign L2 hc)
    · rintro H7 ⟨hw7, hk7, ys, hD, hyl, hyg⟩
      have f1 := flat_len fun y hy => (hyg y hy).1
      have f2 := flat_mem fun y hy => (hyg y hy).2
      have hjl := join_list ys
      refine ⟨_, _, ys, rfl, rfl, .inl (.of hD), ?_, ?_⟩
      · rw [sum_len]
        show _ + ys.length * 0 ≤ _
        omega
      · refine k _ _ ⟨?_, ?_⟩ (hw7.mono (by omega)) (hk15.trans hk7)
        · rw [hjl]
          omega
        · rw [hjl]
          exact f2
end
end T23

set_option Elab.async false
set_option linter.all false
set_option maxRecDepth 100000
set_option maxHeartbeats 4000000
/-! RangeKit: tuple(range(a, b, c)); set(t) of a tuple of ints as a value. -/
namespace L2
open PySem PySem.Spec PyProof.Rows
section
variable {X : Cx} {a b c : Expr} {ta : TA}
/-- n ints from i on, c from one to the next -/
def rgC (i c : Int) (n : Nat) : List Int := (List.range n).map fun k => i + (k : Nat) * c
def tTupRg3 (ta : TA) : TE := fun σ H Q => ta σ H fun vs H1 => ∃ (i j c : Int) (n : Nat), vs = [.int i, .int j, .int c] ∧ RgC i j c n ∧ n ≤ 2 ^ 24 ∧ ∀ q, H1 q = none → Q (.ref q) (upd H1 q (.tup ((rgC i c n).map V.int)))
theorem pe_tupRg3 {p pos p2 pos2 : Pos} (hc : X.calm = true) (hg : Gl X "tuple") (hm : X.mg "tuple" = none) (hg2 : Gl X "range") (hm2 : X.mg "range" = none) (ha : PA X [a, b, c] ta)
    (hs : starEach [a, b, c] X.env = (false, eval a X.env) :: starEach [b, c] X.env := by rfl) (hpl : (backTo pos2 (starEach [b, c] X.env)).any (·.1) = false := by rfl)
    (na : starEach [.Call (.Name "range" p2) [a, b, c] [] pos2] X.env = (false, eval (.Call (.Name "range" p2) [a, b, c] [] pos2) X.env) :: starEach [] X.env := by rfl) :
    PE X (.Call (.Name "tuple" p) [.Call (.Name "range" p2) [a, b, c] [] pos2] [] pos) (tTupRg3 ta) := by
  refine ⟨fun pins s σ H Q I h => ?_⟩
  refine Call_ (ld_blt I hg hm boot_tuple (PyProof.Rows.callWith_type1 (args_cons (Call_ (ld_blt I hg2 hm2 boot_range (PyProof.Rows.callWith_type1 (thn (ha.run pos2 pins s σ H _ I h) fun us s1 ⟨vs, H1, I1, r1, q1⟩ => ?_) hs hpl))) na) na))
  obtain ⟨i, j, k, n, rfl, ⟨hc0, hcn, hsm, hsz⟩, hn, q⟩ := q1
  cases r1 with
  | cons ri r2 =>
  cases r2 with
  | cons rj r3 =>
  cases r3 with
  | cons rk r4 =>
  cases r4
  obtain ⟨t1, rfl⟩ := ri
  obtain ⟨t2, rfl⟩ := rj
  obtain ⟨t3, rfl⟩ := rk
  refine call_range_3 hc0 (args_nil ?_) (hp := Or.inl ?_)
  · have hr : IsRange (s1.heap.push { cls := .type "range", data := .fields #[.int i t1, .int j t2, .int k t3] }) s1.heap.objs.size i j k t1 t2 t3 := IsRange.new _ _ _ _ _ _ _
    have I2 : Inv X pins σ H1 { s1 with heap := s1.heap.push { cls := .type "range", data := .fields #[.int i t1, .int j t2, .int k t3] } } := I1.kept (t' := s1.toks) fun b u e => Heap.get?_push_of_some _ e
    refine call_tuple_range (s := { s1 with heap := s1.heap.push { cls := .type "range", data := .fields #[.int i t1, .int j t2, .int k t3] } }) (n := n) (I2.ok.hd hc) hr hsm hsz hn fun h' tk acc hk hi => ?_
    have I3 : Inv X pins σ H1 { s1 with heap := h', toks := tk } := I2.kept hk
    refine ⟨.ref h'.objs.size, upd H1 h'.objs.size (.tup ((rgC i k n).map V.int)), I3.laid (t' := tk) (fun c o e => Heap.get?_push_of_some _ e) (Nat.le_refl _) (show ObjOk X.prog X.w _ _ _ (.tup ((rgC i k n).map V.int)) from ⟨?_, acc.toList, ?_, ?_⟩), rfl, q _ (I3.hok.fresh (Nat.le_refl _))⟩
    · unfold rgC
      rw [List.length_map, List.length_map, List.length_range, sizeLine_eq]
      omega
    · have e : acc.toList.length = n := by rw [Array.length_toList]; exact hi.1
      unfold rgC
      rw [List.map_map, ← e]
      refine vals_of_get acc.toList _ fun m u hj => ?_
      obtain ⟨t, rfl⟩ := hi.2 m u (by rw [← hj, Array.getElem?_toList])
      exact ⟨t, rfl⟩
    · rw [Array.toArray_toList]
      exact IsTup.new _ _
  · exact PyProof.noPylong_small (by omega)
/-- set(t) of a tuple of ints -/
def rSetI (K : PySem.W.Frag) (w : World) : List V → Hp → VK → Prop := fun xs H Q => ∃ (p : Addr) (ns : List Int), xs = [.ref p] ∧ SqT K H p (ns.map V.int) ∧ ns.length ≤ 1000 ∧
  ∀ (q : Addr) (m : Nat), m ≤ ns.length → H q = none → Q (.ref q) (upd H q (SetO w q (fun j => decide (j ∈ ns)) m))
theorem cr_setI (hc : X.calm = true) : CallR X (.type "set") (rSetI X.K X.w) := by
  intro pins s σ H xs us Q I r h
  obtain ⟨p0, ns, rfl, hq, hl, q⟩ := h
  obtain ⟨u, rfl, ru⟩ := vals1 r
  obtain rfl : u = Value.ref p0 := ru
  obtain ⟨its, rv, pt, hz⟩ := I.tuple hq
  have hi : IntsAre its.toArray.toList ns := ints_of_vals rv
  refine call_set_tupI ns (I.ok.hd hc) (show s.heap.IsTuple p0 its.toArray from pt) hi (by unfold scanBound; omega) fun h' tk c R1 hcn k => ?_
  exact ⟨.ref _, upd H s.heap.objs.size (SetO X.w s.heap.objs.size (fun j => decide (j ∈ ns)) c), I.laid (t' := tk) k (Nat.le_refl _) (setO_new R1), rfl, q _ _ hcn (I.hok.fresh (Nat.le_refl _))⟩
end
end L2
namespace L2
open PySem PySem.Spec PyProof.Rows
theorem RgC.up {i j c : Int} (hc : 0 < c) (hc2 : c < 1073741824) (h1 : 0 ≤ i) (h2 : i ≤ 1073741824) (h3 : 0 ≤ j) (h4 : j ≤ 1073741824) : RgC i j c (Builtin.Range.rangeSize i j c).toNat := by
  refine ⟨by omega, by omega, ?_, PyProof.Rows.rangeSize_toNat i j c⟩
  have hn := PyProof.Rows.rangeSize_toNat i j c
  have hl := PyProof.Rows.rangeSize_toNat_le i j c
  unfold Builtin.Range.small
  simp only [Builtin.Range.rangeFitsLong, Bool.and_eq_true, Bool.or_eq_true, decide_eq_true_eq, beq_iff_eq, show c > 0 from hc, if_true]
  omega
/-- zip(t, u) of tuples -/
theorem walk_zipT {K : PySem.W.Frag} {a b : Addr} {xs ys : List V} {n : Nat} (hn : n = min xs.length ys.length) : Walk (RZ.ItzT K a b) n (fun H => SqT K H a xs ∧ SqT K H b ys) (YPair (fun i => xs[i]?) (fun i => ys[i]?)) := by
  subst hn
  refine ⟨fun i _ hi q => ?_, fun _ q => ⟨xs, ys, q.1, q.2, by omega⟩, fun i H v H' _ q y => ?_⟩
  · have h1 : i < xs.length := by omega
    have h2 : i < ys.length := by omega
    exact ⟨xs, ys, xs[i], ys[i], q.1, q.2, by simp [h1], by simp [h2]⟩
  · obtain ⟨T, x, z, h1, h2, h3, h4, h5⟩ := y
    exact ⟨T, x, z, h1, h2, h3, h4 xs q.1, h5 ys q.2⟩
end L2

set_option Elab.async false
set_option linter.all false
set_option maxRecDepth 100000
set_option maxHeartbeats 4000000
/-! DataKit: sorted, min of data at any depth and length, as rules of the layer. -/
namespace L2
open PySem PySem.Spec PyProof.Rows
section
variable {X : Cx} {pins : List (Addr × Obj)} {σ : St} {H : Hp} {s : Shared}
theorem each_vals (I : Inv X pins σ H s) : ∀ {bs : List (V × PyData)} {us : List Value}, Vals (bs.map (·.1)) us → (∀ b ∈ bs, Dp X.K H b.1 b.2) → PySem.W.EachIs (fun v b => RelV b.1 v) us bs ∧ PySem.W.EachIs (fun v b => ∃ as, Reads s.heap v b.2 as) us bs
  | [], _, r, _ => by
    cases r
    exact ⟨.nil, .nil⟩
  | b :: bs, _, r, h => by
    cases r with
    | cons r1 r2 =>
      obtain ⟨e1, e2⟩ := each_vals I r2 fun c hc => h c (List.mem_cons_of_mem _ hc)
      exact ⟨.cons r1 e1, .cons (Dp.reads I _ _ _ (h b List.mem_cons_self) r1) e2⟩
theorem vals_each : ∀ {us : List Value} {bs : List (V × PyData)}, PySem.W.EachIs (fun v b => RelV b.1 v) us bs → Vals (bs.map (·.1)) us
  | _, _, .nil => .nil
  | _, _, .cons r t => .cons r (vals_each t)
/-- sorted(xs) of data that are alike -/
def rSortedD (K : PySem.W.Frag) : List V → Hp → VK → Prop := fun vs H Q => ∃ (a : Addr) (bs : List (V × PyData)), vs = [V.ref a] ∧ SqL K H a (bs.map (·.1)) ∧ (∀ b ∈ bs, Dp K H b.1 b.2) ∧ PySem.W.AllAlike (bs.map (·.2)) ∧ PySem.W.Sortable (bs.map (·.2)) ∧ (∀ b ∈ bs, b.2.depth ≤ 50) ∧
  ∀ p, H p = none → Q (.ref p) (upd H p (.lst ((bs.mergeSort (PySem.W.dataLe false (·.2))).map (·.1))))
theorem cr_sortedD (hu : X.A.units + 64 < cLine) : CallR X (.builtin "sorted") (rSortedD X.K) := by
  intro pins s σ H vs us Q I r h
  obtain ⟨a, bs, rfl, hs, hd, hal, hk, hdep, q⟩ := h
  obtain ⟨its, rv, hl, hz⟩ := I.list hs
  obtain ⟨u, rfl, ru⟩ := vals1 r
  obtain rfl : u = Value.ref a := ru
  obtain ⟨e1, e2⟩ := each_vals I rv hd
  rw [List.length_map] at hz
  refine PySem.W.sorted_data (enc := fun b : V × PyData => b.2) hl.isList e1 e2 hal hk hz (fun b hb => by have := hdep b hb; omega) fun out hlen ho => ?_
  obtain ⟨n, hn⟩ := sortedAll_at s.heap its out.toArray
  have rv2 := vals_each ho
  exact ⟨.ref (s.heap.objs.size + 1), _, I.laid (t' := s.toks) (a := s.heap.objs.size + 1) (o := .lst ((bs.mergeSort (PySem.W.dataLe false (·.2))).map (·.1))) (fun b o e => sortedAll_old e) (Nat.le_succ _) ⟨by rw [rv2.length, hlen]; exact hz, out, n, rv2, hn⟩, rfl, q _ (I.hok.fresh (Nat.le_succ _))⟩
/-- min(xs) of texts, one at least -/
def minS (x : Str) (xs : List Str) : Str := xs.foldl (fun a y => if decide (y.cps.toList < a.cps.toList) = true then y else a) x
theorem minD_strs (x : Str) : ∀ xs : List Str, PySem.W.minD (.str x) (xs.map PyData.str) = .str (minS x xs) := by
  intro xs
  induction xs generalizing x with
  | nil => rfl
  | cons y ys ih =>
    show PySem.W.minD (if PySem.W.dataLt (.str y) (.str x) = true then .str y else .str x) (ys.map PyData.str) = .str (minS (if decide (y.cps.toList < x.cps.toList) = true then y else x) ys)
    rw [PySem.W.dataLt_str]
    split
    · exact ih y
    · exact ih x
theorem reads_strs {h : Heap} : ∀ {xs : List Str} {us : List Value}, Vals (xs.map V.str) us → ∃ as, ReadsAll h us (xs.map PyData.str) as
  | [], _, r => by
    cases r
    exact ⟨_, .nil⟩
  | x :: xs, _, r => by
    cases r with
    | cons r1 r2 =>
      obtain ⟨t, rfl⟩ := r1
      obtain ⟨as, z⟩ := reads_strs (h := h) r2
      exact ⟨_, .cons (.str x t) z⟩
theorem depth_strs : ∀ xs : List Str, PyData.depthAll (xs.map PyData.str) ≤ 1
  | [] => by simp [PyData.depthAll]
  | x :: xs => by
    have := depth_strs xs
    simp only [List.map_cons, PyData.depthAll, PyData.depth]
    omega
def rMinS (K : PySem.W.Frag) : List V → Hp → VK → Prop := fun vs H Q => ∃ (a : Addr) (x : Str) (xs : List Str), vs = [V.ref a] ∧ SqL K H a ((x :: xs).map V.str) ∧ Q (.str (minS x xs)) H
theorem cr_minS (hc : X.calm = true) (hu : X.A.units + 64 < cLine) : CallR X (.builtin "min") (rMinS X.K) := by
  intro pins s σ H vs us Q I r h
  obtain ⟨a, x, xs, rfl, hs, q⟩ := h
  obtain ⟨its, rv, hl, hz⟩ := I.list hs
  obtain ⟨u, rfl, ru⟩ := vals1 r
  obtain rfl : u = Value.ref a := ru
  obtain ⟨as, hr⟩ := reads_strs (h := s.heap) rv
  have hdep := depth_strs (x :: xs)
  refine PySem.W.min_list_data (x := .str x) (xs := xs.map PyData.str) (I.ok.hd hc) hl.isList (by simpa using hr) ⟨fun y hy z hz => ?_, fun y hy => ?_⟩ (by have : PyData.depthAll (PyData.str x :: xs.map PyData.str) ≤ 1 := hdep; omega) fun i v h' tk bs hv hrd hk => ?_
  · obtain ⟨y', _, rfl⟩ := List.mem_map.mp (show y ∈ (x :: xs).map PyData.str from hy)
    obtain ⟨z', _, rfl⟩ := List.mem_map.mp (show z ∈ (x :: xs).map PyData.str from hz)
    simp [PySem.W.alike]
  · obtain ⟨y', _, rfl⟩ := List.mem_map.mp (show y ∈ (x :: xs).map PyData.str from hy)
    exact fun z => nomatch z
  · rw [minD_strs] at hrd
    cases hrd with
    | str _ t => exact ⟨.str (minS x xs), H, I.kept (t' := tk) hk, ⟨t, rfl⟩, q⟩
end
end L2

set_option Elab.async false
set_option linter.all false
set_option maxRecDepth 100000
set_option maxHeartbeats 4000000
/-! SortKit: a list put in order, as a plain function that evaluates. -/
namespace L2
open PySem
section
variable {α : Type} (le : α → α → Bool)
def ins (a : α) : List α → List α
  | [] => [a]
  | b :: r => if le a b = true then a :: b :: r else b :: ins a r
def isort : List α → List α
  | [] => []
  | a :: r => ins le a (isort r)
theorem ins_perm (a : α) : ∀ l, (ins le a l).Perm (a :: l)
  | [] => .refl _
  | b :: r => by
    unfold ins
    split
    · exact .refl _
    · exact ((ins_perm a r).cons b).trans (.swap a b r)
theorem isort_perm : ∀ l, (isort le l).Perm l
  | [] => .refl _
  | a :: r => (ins_perm le a _).trans ((isort_perm r).cons a)
variable (trans : ∀ x y z, le x y = true → le y z = true → le x z = true) (total : ∀ x y, (le x y || le y x) = true)
include trans total
theorem ins_sorted (a : α) : ∀ {l : List α}, l.Pairwise (fun x y => le x y = true) → (ins le a l).Pairwise (fun x y => le x y = true)
  | [], _ => List.pairwise_singleton _ _
  | b :: r, h => by
    obtain ⟨h1, h2⟩ := List.pairwise_cons.mp h
    unfold ins
    split
    · rename_i q
      refine List.pairwise_cons.mpr ⟨fun c hc => ?_, h⟩
      rcases List.mem_cons.mp hc with rfl | hc
      · exact q
      · exact trans _ _ _ q (h1 c hc)
    · rename_i q
      refine List.pairwise_cons.mpr ⟨fun c hc => ?_, ins_sorted a h2⟩
      have hc2 := (ins_perm le a r).mem_iff.mp hc
      rcases List.mem_cons.mp hc2 with rfl | hc2
      · have t := total c b
        rw [Bool.or_eq_true] at t
        exact t.resolve_left q
      · exact h1 c hc2
theorem isort_sorted : ∀ l : List α, (isort le l).Pairwise (fun x y => le x y = true)
  | [] => List.Pairwise.nil
  | a :: r => ins_sorted le trans total a (isort_sorted r)
omit trans total in
theorem sorted_uniq : ∀ {l m : List α}, (∀ x ∈ l, ∀ y ∈ l, le x y = true → le y x = true → x = y) → l.Perm m → l.Pairwise (fun x y => le x y = true) → m.Pairwise (fun x y => le x y = true) → l = m
  | [], m, _, p, _, _ => by rw [List.nil_perm.mp p]
  | a :: l, m, an, p, h1, h2 => by
    cases m with
    | nil => exact absurd p.length_eq (by simp)
    | cons b m =>
      obtain ⟨s1, s2⟩ := List.pairwise_cons.mp h1
      obtain ⟨t1, t2⟩ := List.pairwise_cons.mp h2
      have e : a = b := by
        have ha : a ∈ b :: m := p.mem_iff.mp List.mem_cons_self
        have hb : b ∈ a :: l := p.mem_iff.mpr List.mem_cons_self
        rcases List.mem_cons.mp ha with e | ha
        · exact e
        rcases List.mem_cons.mp hb with e | hb2
        · exact e.symm
        exact an _ List.mem_cons_self _ hb (s1 b hb2) (t1 a ha)
      subst e
      rw [sorted_uniq (fun x hx y hy => an x (List.mem_cons_of_mem _ hx) y (List.mem_cons_of_mem _ hy)) p.cons_inv s2 t2]
theorem msort_isort (l : List α) (an : ∀ x ∈ l, ∀ y ∈ l, le x y = true → le y x = true → x = y) : l.mergeSort le = isort le l := by
  refine sorted_uniq le (fun x hx y hy => an x ((List.mergeSort_perm l le).mem_iff.mp hx) y ((List.mergeSort_perm l le).mem_iff.mp hy)) ((List.mergeSort_perm l le).trans (isort_perm le l).symm) ?_ (isort_sorted le trans total l)
  exact List.pairwise_mergeSort (fun a b c => trans a b c) (fun a b => total a b) l
end
/-- a sign and its place, as data -/
def skey (cs : List Nat) (i : Nat) : PyData := .tuple [.str ⟨#[cs.getD i 0]⟩, .int i]
/-- a pair of an address and its place, by sign and place -/
def dle {β : Type} (k : β → PyData) : β → β → Bool := PySem.W.dataLe false k
theorem dle_trans {β : Type} (k : β → PyData) (x y z : β) (h1 : dle k x y = true) (h2 : dle k y z = true) : dle k x z = true := (PySem.W.sortLe_total (PyProof.Rows.listOrd PyProof.Rows.itemOrd) false fun b => PySem.W.keyToks (k b)).trans x y z h1 h2
theorem dle_total {β : Type} (k : β → PyData) (x y : β) : (dle k x y || dle k y x) = true := by
  rw [Bool.or_eq_true]
  exact (PySem.W.sortLe_total (PyProof.Rows.listOrd PyProof.Rows.itemOrd) false fun b => PySem.W.keyToks (k b)).total x y
theorem dle_anti {β : Type} {k : β → PyData} {x y : β} (h1 : dle k x y = true) (h2 : dle k y x = true) : PySem.W.keyToks (k x) = PySem.W.keyToks (k y) := by
  have e1 : (!(PyProof.Rows.listOrd PyProof.Rows.itemOrd).blt (PySem.W.keyToks (k y)) (PySem.W.keyToks (k x))) = true := h1
  have e2 : (!(PyProof.Rows.listOrd PyProof.Rows.itemOrd).blt (PySem.W.keyToks (k x)) (PySem.W.keyToks (k y))) = true := h2
  rw [Bool.not_eq_true'] at e1 e2
  exact (PyProof.Rows.listOrd PyProof.Rows.itemOrd).total _ _ e2 e1
/-- the places in the order of their signs -/
def ordI (cs : List Nat) : List Nat := isort (dle (skey cs)) (List.range cs.length)
theorem skey_inj {cs ds : List Nat} {i j : Nat} (h : PySem.W.keyToks (skey cs i) = PySem.W.keyToks (skey ds j)) : i = j := by
  have e1 : ∀ (es : List Nat) (n : Nat), PySem.W.keyToks (skey es n) = [.inl 1, .inr [es.getD n 0], .inl 1, .inl n, .inl 0] := fun es n => by
    simp [skey, PySem.W.keyToks, PySem.W.keyToksAll]
  rw [e1, e1] at h
  injection h with _ h
  injection h with _ h
  injection h with _ h
  injection h with h _
  injection h with h
  exact Int.ofNat.inj h
/-- the pairs at their places, put in order: as ordI says -/
theorem sort_pairs (cs : List Nat) (bs : List (V × PyData)) (f : Nat → Addr) (e : bs = (List.range cs.length).map fun i => (V.ref (f i), skey cs i)) :
    (bs.mergeSort (PySem.W.dataLe false (·.2))).map (·.1) = (ordI cs).map fun i => V.ref (f i) := by
  have h1 := List.map_mergeSort (f := fun i : Nat => (V.ref (f i), skey cs i)) (r := dle (skey cs)) (s := PySem.W.dataLe false (·.2)) (l := List.range cs.length) fun a _ b _ => rfl
  rw [e, ← h1, List.map_map, msort_isort (dle (skey cs)) (dle_trans _) (dle_total _) _ fun x _ y _ h1 h2 => skey_inj (dle_anti h1 h2)]
  rfl
example : ordI [98, 97, 36, 97] = [2, 1, 3, 0] := by decide +kernel
end L2

set_option Elab.async false
set_option linter.all false
set_option maxRecDepth 100000
set_option maxHeartbeats 4000000
/-! IntsKit: tuples and lists of ints as data. -/
namespace L2
open PySem
def tI (ns : List Int) : PyData := .tuple (ns.map PyData.int)
def lI (ns : List Int) : PyData := .list (ns.map PyData.int)
theorem dp_ints {K : PySem.W.Frag} {H : Hp} : ∀ ns : List Int, DpAll K H (ns.map V.int) (ns.map PyData.int)
  | [] => .nil
  | n :: r => .cons (.int n) (dp_ints r)
theorem dp_tI {K : PySem.W.Frag} {H : Hp} {a : Addr} {ns : List Int} (h : SqT K H a (ns.map V.int)) : Dp K H (.ref a) (tI ns) := .tup h (dp_ints ns)
theorem dp_lI {K : PySem.W.Frag} {H : Hp} {a : Addr} {ns : List Int} (h : SqL K H a (ns.map V.int)) : Dp K H (.ref a) (lI ns) := .lst h (dp_ints ns)
theorem shaped_lI (ns : List Int) : SeqAt.shaped (lI ns) = true := PySem.W.ke_shaped_ints ns
theorem shaped_tI (ns : List Int) : SeqAt.shaped (tI ns) = true := by
  simp [tI, SeqAt.shaped, PyData.canLay0, PyData.depth, PySem.W.ke_canLayAll0, PySem.W.ke_depthAll]
theorem eqvAll_ints : ∀ ns ms : List Int, PyData.eqvAll (ns.map PyData.int) (ms.map PyData.int) = decide (ns = ms)
  | [], [] => by simp [PyData.eqvAll]
  | [], _ :: _ => by simp [PyData.eqvAll]
  | _ :: _, [] => by simp [PyData.eqvAll]
  | n :: r, k :: q => by
    simp only [List.map_cons, PyData.eqvAll, PyData.eqv, eqvAll_ints r q]
    by_cases h : n = k <;> simp [h]
theorem eqv_tI (ns ms : List Int) : PyData.eqv (tI ns) (tI ms) = decide (ns = ms) := by
  unfold tI
  simp only [PyData.eqv]
  exact eqvAll_ints ns ms
theorem eqv_lI (ns ms : List Int) : PyData.eqv (lI ns) (lI ms) = decide (ns = ms) := by
  unfold lI
  simp only [PyData.eqv]
  exact eqvAll_ints ns ms
theorem depth_tI (ns : List Int) : (tI ns).depth = 1 := by simp [tI, PyData.depth, PySem.W.ke_depthAll]
theorem flat_ints (ns : List Int) : (ns.map V.int).all flatV = true := by
  rw [List.all_map, List.all_eq_true]
  intro n _
  rfl
theorem inV_ints (k : Int) (ns : List Int) : inV (.int k) (ns.map V.int) = ns.any (· == k) := by
  unfold inV
  rw [List.any_map]
  rfl
/-- a tuple of ints -/
def RTup (H : Hp) (x : V) (ns : List Int) : Prop := ∃ p, x = .ref p ∧ H p = some (.tup (ns.map V.int))
theorem rtup_keep (H H' : Hp) (x : V) (ns : List Int) (k : KeepL H H') (r : RTup H x ns) : RTup H' x ns := by
  obtain ⟨p, rfl, e⟩ := r
  exact ⟨p, rfl, k _ _ e fun _ z => by cases z⟩
theorem rtup_same (H H' : Hp) (x : V) (ns : List Int) (s : ∀ b o, H b = some o → H' b = some o) (r : RTup H x ns) : RTup H' x ns := rtup_keep H H' x ns (.of s) r
def RInt (_ : Hp) (x : V) (n : Int) : Prop := x = .int n
theorem rint_keep (H H' : Hp) (x : V) (n : Int) (_ : KeepL H H') (r : RInt H x n) : RInt H' x n := r
theorem rint_map {H : Hp} {ys : List V} {ns : List Int} (h : All2 (RInt H) ys ns) : ys = ns.map V.int := All2.eq_map (f := V.int) h
/-- tuples of ints by their order -/
def leT (a b : List Int) : Bool := dle tI a b
def sortT (xs : List (List Int)) : List (List Int) := isort leT xs
theorem toks_tI (ns : List Int) : ∃ r, PySem.W.keyToks (tI ns) = r := ⟨_, rfl⟩
end L2
namespace L2
open PySem
theorem toksAll_inj : ∀ {ns ms : List Int}, PySem.W.keyToksAll (ns.map PyData.int) = PySem.W.keyToksAll (ms.map PyData.int) → ns = ms
  | [], [], _ => rfl
  | [], m :: r, h => by simp [PySem.W.keyToksAll] at h
  | n :: r, [], h => by simp [PySem.W.keyToksAll] at h
  | n :: r, m :: q, h => by
    simp only [List.map_cons, PySem.W.keyToksAll, PySem.W.keyToks, List.cons_append, List.nil_append] at h
    injection h with _ h
    injection h with h1 h2
    injection h1 with h1
    rw [h1, toksAll_inj h2]
theorem toks_inj {ns ms : List Int} (h : PySem.W.keyToks (tI ns) = PySem.W.keyToks (tI ms)) : ns = ms := by
  unfold tI at h
  simp only [PySem.W.keyToks] at h
  exact toksAll_inj h
theorem zip_snd {α β : Type} {R : α → β → Prop} {xs : List α} {zs : List β} (h : All2 R xs zs) : (xs.zip zs).map (·.2) = zs ∧ (∀ q ∈ xs.zip zs, R q.1 q.2) ∧ (xs.zip zs).map (·.1) = xs := by
  induction h with
  | nil => exact ⟨rfl, fun q hq => (by cases hq), rfl⟩
  | cons h t ih =>
    refine ⟨?_, fun q hq => ?_, ?_⟩
    · rw [List.zip_cons_cons, List.map_cons, ih.1]
    · rw [List.zip_cons_cons] at hq
      rcases List.mem_cons.mp hq with rfl | hq
      · exact h
      · exact ih.2.1 q hq
    · rw [List.zip_cons_cons, List.map_cons, ih.2.2]
theorem all2_of_pairs {α β : Type} {R : α → β → Prop} : ∀ {qs : List (α × β)}, (∀ q ∈ qs, R q.1 q.2) → All2 R (qs.map (·.1)) (qs.map (·.2))
  | [], _ => .nil
  | q :: qs, h => .cons (h q List.mem_cons_self) (all2_of_pairs fun p hp => h p (List.mem_cons_of_mem _ hp))
def prD (q : V × List Int) : V × PyData := (q.1, tI q.2)
theorem sorted_tups {R : V → List Int → Prop} {xs : List V} {zs : List (List Int)} (h : All2 R xs zs) : All2 R ((((xs.zip zs).map prD).mergeSort (PySem.W.dataLe false (·.2))).map (·.1)) (sortT zs) := by
  obtain ⟨e2, hR, _⟩ := zip_snd h
  have h1 := List.map_mergeSort (f := prD) (r := dle fun q : V × List Int => tI q.2) (s := PySem.W.dataLe false (·.2)) (l := xs.zip zs) fun a _ b _ => rfl
  rw [← h1, List.map_map]
  have hp := List.mergeSort_perm (xs.zip zs) (dle fun q : V × List Int => tI q.2)
  have hs : ((xs.zip zs).mergeSort (dle fun q : V × List Int => tI q.2)).Pairwise (fun x y => dle (fun q : V × List Int => tI q.2) x y = true) := List.pairwise_mergeSort (fun a b c => dle_trans _ a b c) (fun a b => dle_total _ a b) _
  have e3 : ((xs.zip zs).mergeSort (dle fun q : V × List Int => tI q.2)).map (·.2) = sortT zs := by
    refine sorted_uniq leT (fun x _ y _ a b => toks_inj (dle_anti a b)) ?_ ?_ (isort_sorted leT (dle_trans tI) (dle_total tI) zs)
    · have q := (hp.map (·.2)).trans (by rw [e2])
      exact q.trans (isort_perm leT zs).symm
    · rw [List.pairwise_map]
      exact hs
  rw [← e3]
  exact all2_of_pairs fun q hq => hR q (hp.mem_iff.mp hq)
theorem alike_ints : ∀ ns ms : List Int, PySem.W.alikeAll (ns.map PyData.int) (ms.map PyData.int) = true
  | [], [] => rfl
  | [], _ :: _ => rfl
  | _ :: _, [] => rfl
  | n :: r, m :: q => by simp [PySem.W.alikeAll, PySem.W.alike, alike_ints r q]
/-- sorted(xs) of tuples of ints, none empty -/
theorem sortedT_ok {K : PySem.W.Frag} {H : Hp} {a : Addr} {xs : List V} {zs : List (List Int)} {Q : VK} (hS : H a = some (.lst xs)) (h : All2 (RTup H) xs zs) (hne : ∀ z ∈ zs, z ≠ [])
    (k : ∀ p ys, H p = none → All2 (RTup H) ys (sortT zs) → Q (.ref p) (upd H p (.lst ys))) : rSortedD K [V.ref a] H Q := by
  obtain ⟨e2, hR, e1⟩ := zip_snd h
  have em : ((xs.zip zs).map prD).map (·.1) = xs := by
    rw [List.map_map]
    exact e1
  have ed : ((xs.zip zs).map prD).map (·.2) = zs.map tI := by
    rw [List.map_map]
    conv => rhs; rw [← e2, List.map_map]
    rfl
  refine ⟨a, (xs.zip zs).map prD, rfl, by rw [em]; exact .of hS, fun b hb => ?_, ?_, ?_, fun b hb => ?_, fun p hp => k p _ hp (sorted_tups h)⟩
  · obtain ⟨q, hq, rfl⟩ := List.mem_map.mp hb
    obtain ⟨p, e, hp⟩ := hR q hq
    show Dp K H q.1 (tI q.2)
    rw [e]
    exact dp_tI (.of hp)
  · rw [ed]
    intro d hd d' hd'
    obtain ⟨n, _, rfl⟩ := List.mem_map.mp hd
    obtain ⟨m, _, rfl⟩ := List.mem_map.mp hd'
    simp only [tI, PySem.W.alike]
    exact alike_ints n m
  · rw [ed]
    refine .inl fun d hd => ?_
    obtain ⟨n, hn, rfl⟩ := List.mem_map.mp hd
    cases n with
    | nil => exact absurd rfl (hne _ hn)
    | cons n r => exact ⟨.int n, r.map PyData.int, rfl⟩
  · obtain ⟨q, hq, rfl⟩ := List.mem_map.mp hb
    show (tI q.2).depth ≤ 50
    rw [depth_tI]
    decide
end L2
namespace L2
open PySem
theorem catA_ok {K : PySem.W.Frag} {H : Hp} {a b : Addr} {xs ys : List V} {Q : VK} (ha : H a = some (.tup xs)) (hb : H b = some (.tup ys)) (hl : xs.length + ys.length ≤ sizeLine) (k : ∀ p H', Same H H' → H' p = some (.tup (xs ++ ys)) → Q (.ref p) H') : rCatA K (.ref a) (.ref b) H Q :=
  ⟨a, b, xs, ys, rfl, rfl, .of ha, .of hb, hl, fun e => k _ _ (.refl _) (by rw [e]; exact hb), fun _ e => k _ _ (.refl _) (by rw [e, List.append_nil]; exact ha), fun _ _ p hp => k _ _ (fun c u e => by rw [upd_ne (ne_of_none e hp)]; exact e) upd_same⟩
theorem cutV_whole (xs : List V) (lo hi : Option Int) (h : HT.sIx xs.length 0 lo = 0 ∧ HT.sIx xs.length xs.length hi = xs.length) : cutV xs lo hi = xs := by
  unfold cutV
  rw [h.1, h.2]
  simp
theorem slA_ok {K : PySem.W.Frag} {H : Hp} {a : Addr} {xs : List V} {lo hi : Option Int} {Q : VK} (ha : H a = some (.tup xs)) (k : ∀ p H', Same H H' → H' p = some (.tup (cutV xs lo hi)) → Q (.ref p) H') : rSlA K (.ref a) lo hi H Q :=
  ⟨a, xs, rfl, .of ha, fun e => k _ _ (.refl _) (by rw [cutV_whole xs lo hi e]; exact ha), fun _ p hp => k _ _ (fun c u e => by rw [upd_ne (ne_of_none e hp)]; exact e) upd_same⟩
end L2
namespace L2
open PySem PySem.Spec PyProof.Rows
section
variable {X : Cx}
/-- xs + ys of lists that may be read only -/
def rCatS (K : PySem.W.Frag) : R2 := fun x y H Q => ∃ l b xs zs, x = .ref l ∧ y = .ref b ∧ SqL K H l xs ∧ SqL K H b zs ∧ xs.length + zs.length ≤ sizeLine ∧ ∀ p, H p = none → Q (.ref p) (upd H p (.lst (xs ++ zs)))
theorem op_catS : OpR X (binaryOp .Add) (rCatS X.K) := by
  intro pins s σ H x y v u Q I rx ry h
  obtain ⟨l, b, xs, zs, rfl, rfl, ha, hb, hz, q⟩ := h
  cases rx
  cases ry
  obtain ⟨its, r1, p1, _⟩ := I.list ha
  obtain ⟨its2, r2, p2, _⟩ := I.list hb
  obtain ⟨⟨cls, dd, data, sl⟩, n, ho, hc, hdn, hd⟩ := p1
  obtain ⟨⟨cls2, dd2, data2, sl2⟩, n2, ho2, hc2, hdn2, hd2⟩ := p2
  simp only at hc hdn hd hc2 hdn2 hd2
  subst hc hdn hd hc2 hdn2 hd2
  have l1 := r1.length
  have l2 := r2.length
  refine concat_meets ⟨_, ho, rfl⟩ ⟨_, ho2, rfl⟩ noFill_list_add seq_list_add PySem.F.slot_list_add PySem.F.entry_list_add (PySem.F.args_list_add_2 _ _)
    (list_addW l b its.toArray its2.toArray n n2 none none sl sl2 (by rw [List.size_toArray, List.size_toArray]; omega)) ⟨ho, ho2, ?_⟩
  have ea : its.toArray ++ its2.toArray = (its ++ its2).toArray := by simp
  rw [ea]
  exact ⟨.ref _, _, I.lnew (t' := s.toks) (r1.append r2) (by rw [List.length_append]; omega), rfl, q _ I.fresh⟩
end
end L2

set_option Elab.async false
set_option linter.all false
set_option maxRecDepth 100000
set_option maxHeartbeats 4000000
/-! ValKit: d.values(), sum and list of it; math.comb. -/
namespace L2
open PySem PySem.Spec PyProof.Rows
section
variable {X : Cx}
abbrev vwO (p d : Addr) : HO := viewO "dict_values" p d
def rVals : V → List V → Hp → VK → Prop := fun x xs H Q => ∃ (a : Addr) (kvs : List (Key × V)), x = .ref a ∧ xs = [] ∧ H a = some (.dK kvs) ∧ ∀ p, H p = none → Q (.ref p) (upd H p (vwO p a))
theorem mt_values : MtR X "dict.values" rVals := by
  intro pins s σ H x xs v us Q I rx rxs h
  obtain ⟨a, kvs, rfl, rfl, ha, q⟩ := h
  cases rx
  cases rxs
  obtain ⟨_, hsys, vs, rel, dof⟩ := dk_of I.hok ha
  refine call_meetsIn F.slot_dict_values dof.typeIs F.entry_dict_values (F.args_dict_values_1 _) (meets_dict_values (mixKind X.prog X.w) a hsys) ⟨⟨vs, dof⟩, ?_⟩
  exact ⟨.ref s.heap.objs.size, upd H s.heap.objs.size (vwO s.heap.objs.size a), I.laid (t' := s.toks) (fun b u e => Heap.get?_push_of_some _ e) (Nat.le_refl _) (viewO_ok (Heap.get?_push_size _ rfl)), rfl, q _ (I.hok.fresh (Nat.le_refl _))⟩
theorem preSum_ints (ns : List Int) : ∀ j, preSum (fun i => ns.getD i 0) j = (ns.take j).sum := by
  intro j
  induction j with
  | zero => simp [preSum]
  | succ j ih =>
    rw [preSum, ih]
    by_cases h : j < ns.length
    · rw [List.getD_eq_getElem?_getD, List.getElem?_eq_getElem h, List.take_succ_eq_append_getElem h, List.sum_append]
      simp only [Option.getD_some, List.sum_cons, List.sum_nil, Int.add_zero]
    · rw [List.take_of_length_le (by omega), List.take_of_length_le (by omega), List.getD_eq_getElem?_getD, List.getElem?_eq_none (by omega)]
      simp
def rSumV : List V → Hp → VK → Prop := fun xs H Q => ∃ (p a : Addr) (kvs : List (Key × V)) (ns : List Int), xs = [.ref p] ∧ H p = some (vwO p a) ∧ H a = some (.dK kvs) ∧ kvs.map (·.2) = ns.map V.int ∧ Q (.int ns.sum) H
theorem cr_sumV (hc : X.calm = true) : CallR X (.builtin "sum") rSumV := by
  intro pins s σ H xs us Q I r h
  obtain ⟨p, a, kvs, ns, rfl, hp, ha, hv, q⟩ := h
  rw [Vals.ref1 r]
  have vw : s.heap.get? p = some (DSub.viewOb "dict_values" a) := (show ObjOk X.prog X.w H s.heap p (vwO p a) from I.hok p _ hp).1
  obtain ⟨_, hsys, vs, rel, dof⟩ := dk_of I.hok ha
  obtain ⟨ep, dat⟩ := dof.dictAt
  obtain ⟨ob, es, ho, ex, hdat, hko, hpr, hnd⟩ := id dat
  have hlt : a < s.heap.objs.size := Heap.lt_size ho
  have hlv : vs.length = ns.length := by
    have e1 := congrArg List.length hv
    rw [List.length_map, List.length_map] at e1
    rw [← e1]
    exact (KV.length rel).symm
  have hval : ∀ (i : Nat) (v : Value), (∃ k, vs[i]? = some (k, v)) → ∃ t, v = Value.int (ns.getD i 0) t := fun i v ⟨k, hk⟩ => by
    obtain ⟨x, h1, h2⟩ := KV.at' rel hk
    have e1 : (kvs.map (·.2))[i]? = some x := by rw [List.getElem?_map, h1] <;> rfl
    rw [hv, List.getElem?_map] at e1
    obtain ⟨j, hj, e2⟩ := Option.map_eq_some_iff.mp e1
    subst e2
    obtain ⟨t, e3⟩ := h2
    refine ⟨t, ?_⟩
    rw [e3, List.getD_eq_getElem?_getD, hj] <;> rfl
  refine call_sum_walkAnyS (wpAny_pyIter_values (v := p) (d := a) ⟨_, vw, rfl, rfl⟩ dat ?_)
  refine ⟨_, _, _, _, _, _, _, fun i => ns.getD i 0, rfl, (Walks.dictValues (knd := mixKind X.prog X.w) (A := X.A.in1) (I.ok.hd hc) s.heap.objs.size a (Nat.ne_of_lt hlt) vs ep).toS,
    ⟨⟨_, Heap.get?_push_size _ rfl, rfl, rfl⟩, dat.keep fun b u e => Heap.get?_push_of_some _ e⟩, fun b hb => ?_, hval, fun s' t' hm => ?_⟩
  · rcases List.mem_cons.mp hb with e | hb
    · rw [e, Heap.size_push]
      exact Nat.lt_succ_self _
    · rw [List.mem_singleton.mp hb, Heap.size_push]
      exact Nat.lt_succ_of_lt hlt
  · have hk : ∀ b o, s.heap.get? b = some o → s'.heap.get? b = some o := fun b o e =>
      hm.heap b o (fun hI => absurd (Heap.lt_size e) (by rw [List.mem_singleton.mp hI]; exact Nat.lt_irrefl _)) (Heap.get?_push_of_some _ e)
    rw [Moved.eq_with hm]
    refine ⟨.int _, H, I.kept (t' := s'.toks) hk, ⟨t', rfl⟩, ?_⟩
    rw [preSum_ints, hlv, List.take_length]
    exact q
def rListV : List V → Hp → VK → Prop := fun xs H Q => ∃ (p a : Addr) (kvs : List (Key × V)), xs = [.ref p] ∧ H p = some (vwO p a) ∧ H a = some (.dK kvs) ∧ ∀ r, H r = none → Q (.ref r) (upd H r (.lst (kvs.map (·.2))))
theorem vals_at {us : List Value} {xs : List V} (hl : us.length = xs.length) (h : ∀ (i : Nat) (u : Value), us[i]? = some u → ∃ x : V, xs[i]? = some x ∧ RelV x u) : Vals xs us := by
  induction xs generalizing us with
  | nil =>
    cases us with
    | nil => exact .nil
    | cons u us => cases hl
  | cons x xs ih =>
    cases us with
    | nil => cases hl
    | cons u us =>
      obtain ⟨y, e, r⟩ := h 0 u rfl
      cases e
      exact .cons r (ih (by simpa using hl) fun i u hu => by simpa using h (i + 1) u (by simpa using hu))
theorem cr_listV (hc : X.calm = true) : CallR X (.type "list") rListV := by
  intro pins s σ H xs us Q I r h
  obtain ⟨p, a, kvs, rfl, hp, ha, q⟩ := h
  rw [Vals.ref1 r]
  have vw : s.heap.get? p = some (DSub.viewOb "dict_values" a) := (show ObjOk X.prog X.w H s.heap p (vwO p a) from I.hok p _ hp).1
  obtain ⟨hz, hsys, vs, rel, dof⟩ := dk_of I.hok ha
  obtain ⟨ep, dat⟩ := dof.dictAt
  have hl : kvs.length = vs.length := KV.length rel
  refine PySem.W.kdl_call (PySem.W.kdl_values (knd := mixKind X.prog X.w) (kvs := vs) (ep := ep)) (I.ok.hd hc) ⟨⟨_, vw, rfl, rfl⟩, dat⟩ (by omega) fun h' tk acc c hk hS hacc => ?_
  refine ⟨.ref s.heap.objs.size, _, I.laid (t' := tk) (a := s.heap.objs.size) (o := .lst (kvs.map (·.2))) hk (Nat.le_refl _) ⟨by rw [List.length_map]; exact hz, acc.toList, c, vals_at (by rw [Array.length_toList, hacc.1, List.length_map, hl]) fun i u hu => ?_, by rw [Array.toArray_toList]; exact hS⟩, rfl, q _ (I.hok.fresh (Nat.le_refl _))⟩
  obtain ⟨k, e⟩ := hacc.2 i u (by rw [← Array.getElem?_toList]; exact hu)
  obtain ⟨x, h1, h2⟩ := KV.at' rel e
  exact ⟨x, by rw [List.getElem?_map, h1] <;> rfl, h2⟩
def rComb : List V → Hp → VK → Prop := fun vs H Q => ∃ a b : Int, vs = [.int a, .int b] ∧ 0 ≤ a ∧ 0 ≤ b ∧ a < 2 ^ 64 ∧ b ≤ 9000 ∧ Q (.int (PySem.W.mcComb a b)) H
theorem cr_comb : CallR X (.builtin "math.comb") rComb := by
  intro pins s σ H vs us Q I r h
  obtain ⟨a, b, rfl, ha, hb, ha2, hk, q⟩ := h
  obtain ⟨t, u, rfl⟩ := Vals.int2 r
  exact PySem.W.mc_comb ha hb ha2 (.inl hk) fun _ => ⟨.int _, H, I.tok _, ⟨_, rfl⟩, q⟩
end
end L2

set_option Elab.async false
set_option linter.all false
set_option maxRecDepth 100000
set_option maxHeartbeats 4000000
/-! RaiseKit: an error raised; several clauses, with and without names; what a lambda handed over says. -/
namespace L2
open PySem PySem.Spec PyProof.Rows EK
section
variable {X : Cx} {C fI : Addr} {x f : Str}
/-- x(e), made to be raised: its own dict, new, holds the value -/
def tErrMk (C : Addr) (f : Str) (ta : TA) : St → Hp → XK → Prop := fun σ H Q => ta σ H fun vs H1 => ∃ v, vs = [v] ∧ ∀ d, H1 d = none → Q (.ref C) (some d) (upd H1 d (.xd [(f, v)]))
theorem pmk_err {a : Expr} {ta : TA} {p pos : Pos} {k : Nat} (T : ErrTxt X.prog X.K X.mg x f C fI) (hr : Room k X.A) (ha : PA X [a] ta) (hg : Gl X x) (hd : (x == ("__debug__" : Str)) = false := by decide)
    (he : starEach (a :: []) X.env = (false, eval a X.env) :: starEach [] X.env := by rfl) (hpl : (backTo pos (starEach [] X.env)).any (·.1) = false := by rfl) :
    PMk X (.Call (.Name x p) [a] [] pos) (tErrMk C f ta) := by
  intro pins s σ H Q I h
  refine wpAny_Call_Name_kw (ld_glob I hg T.gC ?_ hd)
  refine PySem.W.callWith_K (h₀ := X.base) I.ok.mod.kin T.kC (thn (ha.run pos pins s σ H _ I h) fun us s1 hh => ?_) he hpl
  obtain ⟨vs, H1, I1, r1, v, ev, q1⟩ := hh
  subst ev
  refine ⟨I1.kIn, ?_⟩
  cases r1 with
  | cons rv rn =>
    rename_i v' us'
    cases rn
    show wpAny _ _ (call (.ref C) [v']) _ _ _
    have hlim := I1.nolimit
    obtain ⟨hp, g, dr, tk, os⟩ := s1
    obtain ⟨mb, hb1, hb2⟩ := I1.mod.blt
    refine wpAny_call (err_made T I1.kIn hlim (I1.mod.glob.keeps I1.bk) ⟨mb, hb1.keeps I1.bk, hb2⟩ (by have := hr.dp; omega) fun h' tk' e d M => ?_)
    show MkP X pins σ Q (.ref e) ⟨h', g, dr, tk', os⟩
    obtain ⟨t1, hoe⟩ := M.obj
    obtain ⟨G, g1, g2⟩ := restrict h' fun b => decide (b ≠ e)
    have gk : ∀ b, b ≠ e → G.get? b = h'.get? b := fun b hb => g1 b (decide_eq_true hb)
    have ge : G.get? e = none := g2 e (by simp)
    have gs : ∀ b o, G.get? b = some o → h'.get? b = some o := fun b o q => by
      by_cases hbe : b = e
      · rw [hbe, ge] at q
        cases q
      · exact (gk b hbe).symm.trans q
    have old : ∀ b o, hp.get? b = some o → G.get? b = some o := fun b o q => (gk b (Nat.ne_of_lt (Nat.lt_of_lt_of_le (Heap.lt_size q) M.new))).trans (M.keep b o q)
    have ob : ObjOk X.prog X.w (upd H1 d (.xd [(f, v)])) G d (.xd [(f, v)]) := ⟨_, M.ns.at (fun o q => (gk d M.dne).trans q), relO_one rv⟩
    have J : Inv X pins σ (upd H1 d (.xd [(f, v)])) ⟨G, g, dr, tk', os⟩ := I1.laid (t' := tk') old M.dbig ob
    have ne : (upd H1 d (.xd [(f, v)])) e = none := by
      rw [upd_ne (Ne.symm M.dne)]
      exact I1.hok.fresh M.new
    exact ⟨e, _, _, ⟨G, g, dr, tk', os⟩, _, .ref C, some d, rfl, J, gs, ge, hoe, ⟨rfl, rfl⟩, rfl, rfl, ne, rfl, I1.bare, raises_own T.exC T.tyC, q1 d (I1.hok.fresh M.dbig)⟩
theorem ps_raiseErr {a : Expr} {ta : TA} {W : WX} {p pos pos2 : Pos} {k : Nat} (hc : X.calm = true) (T : ErrTxt X.prog X.K X.mg x f C fI) (hr : Room k X.A) (tk : Takes X W) (ha : PA X [a] ta) (hg : Gl X x) (hd : (x == ("__debug__" : Str)) = false := by decide)
    (he : starEach (a :: []) X.env = (false, eval a X.env) :: starEach [] X.env := by rfl) (hpl : (backTo pos (starEach [] X.env)).any (·.1) = false := by rfl) :
    PS X (.Raise (some (.Call (.Name x p) [a] [] pos)) none pos2) (fun _ σ H => tErrMk C f ta σ H fun cls d H' => W cls d σ H') := ps_raise hc tk (pmk_err T hr ha hg hd he hpl)
end
/-! ### try with several clauses -/
structure Cl where
  c : Value
  i : Option Nat
  ts : Addr → Value → Option Addr → TS
def Ends.drop (D : Ends) (i : Nat) : Ends := { nx := fun s h => D.nx (s.set i none) h, rt := D.rt, bk := fun s h => D.bk (s.set i none) h, ct := fun s h => D.ct (s.set i none) h }
def Cl.run (k : Cl) (a : Addr) (cls : Value) (d : Option Addr) : TS := fun D σ H => match k.i with
  | none => k.ts a cls d D σ H
  | some i => i < σ.length → k.ts a cls d (D.drop i) (σ.set i (some (.ref a))) H
def wCl (K : PySem.W.Frag) (Wout : WX) (D : Ends) : List Cl → WX
  | [] => Wout
  | k :: r => fun cls d σ H => ∃ b, PySem.W.exmOne K cls k.c = some b ∧ (b = true → ∀ a, H a = none → k.run a cls d D σ H) ∧ (b = false → wCl K Wout D r cls d σ H)
inductive ClOk (X : Cx) : List ExceptHandler → List Cl → Prop
  | nil : ClOk X [] []
  | un {x : Str} {c : Value} {ts : Addr → Value → Option Addr → TS} {b1 : Stmt} {suite : List Stmt} {np pos' : Pos} {hds : List ExceptHandler} {l : List Cl} (hc : Names X x c)
      (hsu : ∀ (a : Addr) (oe : Obj) (cls : Value) (d : Option Addr) (pn : List (Addr × Obj)), Zc cls d oe → (∃ vs, oe.data = .fields vs) → PSs (X.suite a ((a, oe) :: pn)) (b1 :: suite) (ts a cls d)) (r : ClOk X hds l) :
      ClOk X (.ExceptHandler (some (.Name x np)) none (b1 :: suite) pos' :: hds) (⟨c, none, ts⟩ :: l)
  | as {x n : Str} {i : Nat} {c : Value} {ts : Addr → Value → Option Addr → TS} {b1 : Stmt} {suite : List Stmt} {np pos' : Pos} {hds : List ExceptHandler} {l : List Cl} (hi : X.N[i]? = some n) (hln : X.env.kindOf n = some .local) (hc : Names X x c)
      (hsu : ∀ (a : Addr) (oe : Obj) (cls : Value) (d : Option Addr) (pn : List (Addr × Obj)), Zc cls d oe → (∃ vs, oe.data = .fields vs) → PSs (X.suite a ((a, oe) :: pn)) (b1 :: suite) (ts a cls d)) (r : ClOk X hds l) :
      ClOk X (.ExceptHandler (some (.Name x np)) (some n) (b1 :: suite) pos' :: hds) (⟨c, some i, ts⟩ :: l)
section
variable {X : Cx} {body : List Stmt} {hd0 : ExceptHandler} {hds : List ExceptHandler} {l : List Cl} {pos : Pos} {tb : WX → TS} {Wout : WX} {pins : List (Addr × Obj)} {s : Shared} {D : Ends}
/-- behind a suite: its end, the name gone -/
theorem sp_unsuite {a : Addr} {q : Addr × Obj} {f : Flow} (ok : X.Ok) (h : SP (X.suite a (q :: (X.pn ++ pins))) [] D f s) : SP X pins D f s := by
  cases f with
  | next =>
    obtain ⟨t, h1, J, z⟩ := h
    exact ⟨t, h1, J.unsuite ok, z⟩
  | brk =>
    obtain ⟨t, h1, J, z⟩ := h
    exact ⟨t, h1, J.unsuite ok, z⟩
  | cont =>
    obtain ⟨t, h1, J, z⟩ := h
    exact ⟨t, h1, J.unsuite ok, z⟩
  | ret u =>
    obtain ⟨v, t, h1, J, r, z⟩ := h
    exact ⟨v, t, h1, J.unsuite ok, r, z⟩
theorem sp_gone {n : Str} {i : Nat} {f : Flow} {pos' : Pos} (hN : X.N.Nodup) (hi : X.N[i]? = some n) (hln : X.env.kindOf n = some .local) (h : SP X pins (D.drop i) f s) :
    wpAny (model X.prog X.w) X.A (do bindName X.env n .none; unbindBehindTheSuite X.env n pos') (fun _ s7 => SP X pins D f s7) X.xe s := by
  cases f with
  | next =>
    obtain ⟨t, h1, J, z⟩ := h
    exact gone_ok J hN hi hln fun s7 J7 => ⟨_, _, J7, z⟩
  | brk =>
    obtain ⟨t, h1, J, z⟩ := h
    exact gone_ok J hN hi hln fun s7 J7 => ⟨_, _, J7, z⟩
  | cont =>
    obtain ⟨t, h1, J, z⟩ := h
    exact gone_ok J hN hi hln fun s7 J7 => ⟨_, _, J7, z⟩
  | ret u =>
    obtain ⟨v, t, h1, J, r, z⟩ := h
    exact gone_ok J hN hi hln fun s7 J7 => ⟨_, _, _, J7, r, z⟩
theorem names_ld {a : Addr} {oe : Obj} {pn : List (Addr × Obj)} {σ : St} {H : Hp} {x : Str} {c : Value} {np : Pos} (S : Inv (X.suite a ((a, oe) :: pn)) [] σ H s) (hc : Names X x c) {Q : Value → Shared → Prop} {E : Value → Shared → Prop} (q : Q c s) :
    wpAny (model X.prog X.w) (X.A.mark (some (.ref a))) (eval (.Name x np) X.env) Q E s := by
  obtain ⟨h1, h2, h3⟩ := hc
  rcases h3 with h3 | ⟨h3, h4, h5⟩
  · exact ld_glob (X := X.suite a ((a, oe) :: pn)) S h1 h3 q h2
  · exact ld_blt (X := X.suite a ((a, oe) :: pn)) S h1 h3 h4 q h5 h2
theorem ps_tryC (hs : X.stack = X.env :: X.outer) (hf : X.env.frame = some X.env.locals) (hN : X.N.Nodup) (tk : Takes X Wout)
    (hb : ∀ (W : WX) (pn : List (Addr × Obj)) (xe : Value → Shared → Prop), Takes (X.tr pn xe) W → PassesOwn (model X.prog X.w) X.A X.env xe → PSs (X.tr pn xe) body (tb W))
    (hh : ClOk X (hd0 :: hds) l) : PS X (.Try body (hd0 :: hds) [] [] pos) (fun D σ H => tb (wCl X.K Wout D l) D σ H) := by
  refine ⟨fun pins s σ H D I h => ?_⟩
  have ok := I.ok
  have hfr : X.A.frames = some (X.env :: X.outer) := ok.frames.trans (congrArg some hs)
  refine wpAny_Try_except (wpAny_mono ((hb (wCl X.K Wout D l) (X.pn ++ pins) _ (fun u s' xx => ?_) PassesOwn.looking).run [] s σ H D (I.toTry _) h) (fun fl s1 hsp => ?_) fun e s1 he => he)
  · -- an exception has come
    obtain ⟨a, B, sI, pins', σ', H', cls, d, rfl, J0, nb, up, sky, na, os, ag, w⟩ := xx
    have J : Inv X pins σ' H' sI := J0.ofTry ok
    rw [hs] at sky
    show wpAny (model X.prog X.w) X.A (noteFrame (.ref a) X.env) _ _ _
    refine Sky.land Zc.steady hfr hf sky fun h3 fl3 up3 => ?_
    have J3 : Inv X pins σ' H' { s' with heap := h3 } := J.landed nb fl3.1 (up.trans up3) os ag
    obtain ⟨oe3, vs3, he3, hz3, hd3⟩ := fl3.there
    have ff := fl3.2.2.1
    have away : ∀ b ∈ frs (X.env :: X.outer), a ≠ b := fun b hm z => by
      obtain ⟨_, o', e', hnf⟩ := ff.mem hm
      rw [← z, he3] at e'
      cases e'
      exact hnf _ hd3
    have nL : a ≠ X.env.locals := away _ (List.mem_filterMap.mpr ⟨X.env, List.mem_cons_self, hf⟩)
    have nF : a ∉ X.fs := fun hm => by
      obtain ⟨e, he, q⟩ := List.mem_filterMap.mp hm
      exact away a (List.mem_filterMap.mpr ⟨e, List.mem_cons_of_mem _ he, q⟩) rfl
    have S3 := J3.suite he3 hd3 na nL nF
    have LT : PySem.W.Looks (model X.prog X.w) h3 (typeOf (.ref a)) cls := fun A Q E s k q => wpAny_typeOf_ref (k _ _ he3) (by rw [hz3.1]; exact q)
    have test : ∀ {x : Str} {c : Value} {np : Pos}, Names X x c → ∀ {Q : Value → Shared → Prop} {E : Value → Shared → Prop}, Q c { s' with heap := h3 } → wpAny (model X.prog X.w) (X.A.mark (some (.ref a))) (eval (.Name x np) X.env) Q E { s' with heap := h3 } := fun hc => names_ld S3 hc
    have go : ∀ {hs2 : List ExceptHandler} {l2 : List Cl}, ClOk X hs2 l2 → wCl X.K Wout D l2 cls d σ' H' →
        wpAny (model X.prog X.w) X.A (handleBy (.ref a) X.env hs2) (SP X pins D) X.xe { s' with heap := h3 } := by
      intro hs2 l2 hk
      induction hk with
      | nil =>
        intro w
        refine wpAny_handleBy_nil ?_
        obtain ⟨_, _, _, oe, vs, T, oT, ts', he, hz, hd, h1, hr⟩ := id fl3
        unfold PySem.passOn
        refine wpAny_bind (wpAny_field he hd h1 ?_)
        rw [if_neg (show ¬ ((Value.ref T == Value.none) = true) from by simp)]
        have fin : wpAny (model X.prog X.w) X.A (setFlight (.ref a) X.env.frame) (fun _ s4 => wpAny (model X.prog X.w) X.A (throw (.ref a) : Sem Flow) (SP X pins D) X.xe s4) X.xe { s' with heap := h3 } := by
          rw [hf]
          exact HandSPX.setFlight_upZ fl3 fun h4 hh4 up4 => wpAny_throw (tk _ _ ⟨a, B, sI, pins, σ', H', cls, d, rfl, J, nb, (up.trans up3).trans up4, .inr (.inr (by rw [hs]; exact hh4)), na, os, ag, w⟩)
        first
          | exact wpAny_bind (wpAny_pure (wpAny_bind fin))
          | exact wpAny_bind fin
      | @un x c ts b1 suite np pos' hds2 l2 hc hsu r ih =>
        intro ⟨b, hb1, hyes, hno⟩
        refine wpAny_handleBy_cons (codeAny_handlers_test (test hc ((PySem.W.exm_one (M := model X.prog X.w) J3.kIn LT hb1).here ?_))) (by intro q; cases q)
        cases b with
        | false => exact ih (hno rfl)
        | true =>
          refine codeAny_handlers_suite (HandSPX.lands_againZ fl3 fun h4 fl4 up4 => ?_)
          have J4 : Inv X pins σ' H' { s' with heap := h4 } := J.landed nb fl4.1 ((up.trans up3).trans up4) os ag
          obtain ⟨oe4, vs4, he4, hz4, hd4⟩ := fl4.there
          exact wpAny_mono ((hsu a oe4 cls d (X.pn ++ pins) hz4 ⟨_, hd4⟩).run [] _ _ H' _ (J4.suite he4 hd4 na nL nF) (hyes rfl a na)) (fun f s6 hsp => sp_unsuite ok hsp) (fun _ _ z => False.elim z)
      | @as x n i c ts b1 suite np pos' hds2 l2 hi hln hc hsu r ih =>
        intro ⟨b, hb1, hyes, hno⟩
        refine wpAny_handleBy_cons (codeAny_handlers_test (test hc ((PySem.W.exm_one (M := model X.prog X.w) J3.kIn LT hb1).here ?_))) (by intro q; cases q)
        cases b with
        | false => exact ih (hno rfl)
        | true =>
          refine codeAny_handlers_suite_as (HandSPX.lands_againZ fl3 fun h4 fl4 up4 => ?_)
          have J4 : Inv X pins σ' H' { s' with heap := h4 } := J.landed nb fl4.1 ((up.trans up3).trans up4) os ag
          obtain ⟨oe4, vs4, he4, hz4, hd4⟩ := fl4.there
          refine store_ok (X := X.suite a ((a, oe4) :: (X.pn ++ pins))) (v := .ref a) (J4.suite he4 hd4 na nL nF) hN hi (.inl hln) rfl (fun s5 S5 => ?_) (.inr hln)
          have hil : i < σ'.length := by rw [J.len]; exact (List.getElem?_eq_some_iff.mp hi).1
          exact wpAny_mono ((hsu a oe4 cls d (X.pn ++ pins) hz4 ⟨_, hd4⟩).run [] s5 _ H' _ S5 (hyes rfl a na hil)) (fun f s6 hsp => sp_gone hN hi hln (sp_unsuite ok hsp)) (fun _ _ z => False.elim z)
    exact go hh w
  · cases fl with
    | next =>
      obtain ⟨t, h1, J', q⟩ := hsp
      exact wpAny_execs_nil ⟨t, h1, J'.ofTry ok, q⟩
    | brk =>
      obtain ⟨t, h1, J', q⟩ := hsp
      exact ⟨t, h1, J'.ofTry ok, q⟩
    | cont =>
      obtain ⟨t, h1, J', q⟩ := hsp
      exact ⟨t, h1, J'.ofTry ok, q⟩
    | ret u =>
      obtain ⟨v, t, h1, J', r, q⟩ := hsp
      exact ⟨v, t, h1, J'.ofTry ok, r, q⟩
end
end L2

set_option Elab.async false
set_option linter.all false
set_option maxRecDepth 100000
set_option maxHeartbeats 4000000
/-! SaidKit: what a lambda handed over tells, or which of two errors it raises, as a pair. -/
namespace L2
open PySem PySem.Spec PyProof.Rows EK LamX
/-- an error of cls with its dict d: of the class at C, its one value told as (m, value) -/
def errTold (C : Addr) (f m : Str) (Q : VK) : XK := fun cls d H => cls = .ref C ∧ ∃ (dd : Addr) (v : V), d = some dd ∧ H dd = some (.xd [(f, v)]) ∧ ∀ p, H p = none → Q (.ref p) (upd H p (.tup [.str m, v]))
def wSaid (K : PySem.W.Frag) (C1 C2 : Addr) (f1 f2 m1 m2 : Str) (Q : VK) : XK := fun cls d H => ∃ b1, PySem.W.exmOne K cls (.ref C1) = some b1 ∧ (b1 = true → errTold C1 f1 m1 Q cls d H) ∧
  (b1 = false → ∃ b2, PySem.W.exmOne K cls (.ref C2) = some b2 ∧ (b2 = true → errTold C2 f2 m2 Q cls d H) ∧ (b2 = false → False))
def TSaid (K : PySem.W.Frag) (C1 C2 : Addr) (f1 f2 m1 m2 : Str) : (XK → Hp → VK → Prop) → Hp → VK → Prop := fun tl H Q =>
  tl (wSaid K C1 C2 f1 f2 m1 m2 Q) H fun v H1 => [V.str "told", v].length ≤ sizeLine ∧ ∀ p, H1 p = none → Q (.ref p) (upd H1 p (.tup [.str "told", v]))
theorem said_gives {X : Cx} {Ng : List Str} {x a e1 e2 n1 n2 q f1 f2 m1 m2 : Str} {sg : Scope} {g C1 C2 : Addr} {cdg : Value} {j0 j1 j2 : Nat} {p1 p2 p3 p4 p5 p6 p7 p8 a1 a2 a3 a4 a5 a6 a7 b1 b2 b3 b4 b5 b6 b7 c1 c2 : Pos} {k0 k1 k2 : Nat} {mz : Value}
    (hN : Ng.Nodup) (hn1 : Ng[1]? = some n1) (hl1 : sg.names.lookup n1 = some .local) (hn2 : Ng[1]? = some n2)
    (ge1 : sg.names.lookup e1 = some .globalImplicit) (hm1 : X.mg e1 = some (.ref C1)) (de1 : (e1 == ("__debug__" : Str)) = false)
    (ge2 : sg.names.lookup e2 = some .globalImplicit) (hm2 : X.mg e2 = some (.ref C2)) (de2 : (e2 == ("__debug__" : Str)) = false)
    (T1 : XfC X.K C1) (T2 : XfC X.K C2) (no1 : PySem.W.findIn X.K (.ref C1) f1 = some none) (no2 : PySem.W.findIn X.K (.ref C2) f2 = some none) (dn : (n1 == ("__debug__" : Str)) = false) (cn : (n1 == ("__classdict__" : Str)) = false) (sk : sg.kind = .function)
    (h0 : ∀ f : Addr, (L2.start Ng [V.ref f])[0]? = some (some (V.ref f))) (hz1 : ∀ f : Addr, (L2.start Ng [V.ref f])[1]? = some none) :
    GivesTo X Ng x sg g cdg [.Try [.Return (some (.Tuple [.Constant (.str "told") j0 p1, .Call (.Name a p2) [] [] p3] k0 p4)) p5]
      [.ExceptHandler (some (.Name e1 a1)) (some n1) [.Return (some (.Tuple [.Constant (.str m1) j1 a2, .Attribute (.Name n1 a3) f1 a4] k1 a5)) a6] a7,
       .ExceptHandler (some (.Name e2 b1)) (some n2) [.Return (some (.Tuple [.Constant (.str m2) j2 b2, .Attribute (.Name n2 b3) f2 b4] k2 b5)) b6] b7] [] [] p8] a q (TSaid X.K C1 C2 f1 f2 m1 m2) := by
  obtain rfl : n1 = n2 := Option.some.inj (hn1.symm.trans hn2)
  intro f c' s H Q tl act hc h
  have hlen : 1 < (L2.start Ng [V.ref f]).length := by
    have z := hz1 f
    exact (List.getElem?_eq_some_iff.mp z).1
  have gl1 : Gl (cxOf C8.CX0 X.prog X.w X.K X.mg X.base Ng x sg g cdg X.A X.stack s H C8.E0).nox e1 := ge1
  have gl2 : Gl (cxOf C8.CX0 X.prog X.w X.K X.mg X.base Ng x sg g cdg X.A X.stack s H C8.E0).nox e2 := ge2
  refine ⟨_, pss_one (ps_tryC (X := (cxOf C8.CX0 X.prog X.w X.K X.mg X.base Ng x sg g cdg X.A X.stack s H C8.E0).nox)
      (tb := fun W D σ H => ∃ Ech : XK, (∀ cls d σ' H', Ech cls d H' → W cls d σ' H') ∧ σ[0]? = some (some (.ref f)) ∧ H c' = some (CodeO c' q) ∧ tl Ech H (fun v H1 => [V.str "told", v].length ≤ sizeLine ∧ ∀ p, H1 p = none → D.rt (.ref p) (upd H1 p (.tup [.str "told", v]))))
      (l := [⟨.ref C1, some 1, fun a cls d => tRet (tTup (tCons (tC (.str m1)) (tCons (tXf a cls d C1 f1 (tVar 1)) tNil)))⟩, ⟨.ref C2, some 1, fun a cls d => tRet (tTup (tCons (tC (.str m2)) (tCons (tXf a cls d C2 f2 (tVar 1)) tNil)))⟩])
      rfl rfl hN takes0 (fun W pn xe tk _ => ?_)
      (ClOk.as hn1 (by show Env.kindOf _ n1 = some NameKind.local; exact hl1) ⟨gl1, de1, .inl hm1⟩ (fun a oe cls d pn hz hf => pss_one (ps_ret (pe_tup (pa_cons pe_str (pa_cons (pe_xf T1 no1 hz hf (pe_var (i := 1) hn1 (Or.inl hl1) dn cn)) pa_nil)))))
        (ClOk.as hn1 (by show Env.kindOf _ n1 = some NameKind.local; exact hl1) ⟨gl2, de2, .inl hm2⟩ (fun a oe cls d pn hz hf => pss_one (ps_ret (pe_tup (pa_cons pe_str (pa_cons (pe_xf T2 no2 hz hf (pe_var (i := 1) hn1 (Or.inl hl1) dn cn)) pa_nil))))) .nil))), ?_⟩
  · refine ⟨fun pins s' σ H' D I h' => ?_⟩
    obtain ⟨Ech, hW, h1, h2, h3⟩ := h'
    have hp := act W pn xe Ech p2 p3 tk hW
    have hq : PSs ((cxOf C8.CX0 X.prog X.w X.K X.mg X.base Ng x sg g cdg X.A X.stack s H C8.E0).tr pn xe) [.Return (some (.Tuple [.Constant (.str "told") j0 p1, .Call (.Name a p2) [] [] p3] k0 p4)) p5] _ := pss_one (ps_ret (pe_tup (pa_cons pe_str (pa_cons hp pa_nil))))
    exact hq.run pins s' σ H' D I ⟨h1, h2, h3⟩
  · have hset : ∀ (σ : L2.St) (y : V), 1 < σ.length → (σ.set 1 (some y))[1]? = some (some y) := fun σ y h => by rw [List.getElem?_set_self h]
    have two : ∀ x y : V, [x, y].length ≤ sizeLine := fun x y => by show 2 ≤ sizeLine; decide
    refine ⟨wSaid X.K C1 C2 f1 f2 m1 m2 Q, fun cls d σ' H' ⟨b1, e1, y1, z1⟩ => ⟨b1, e1, fun hb a ha hl => ?_, fun hb => ?_⟩, h0 f, hc, h⟩
    · obtain ⟨ec, dd, v, ed, hd, q⟩ := y1 hb
      exact ⟨_, hset _ _ hl, rfl, ec, dd, _, v, ed, hd, look1 _ _, two _ _, q⟩
    · obtain ⟨b2, e2, y2, z2⟩ := z1 hb
      refine ⟨b2, e2, fun hb2 a ha hl => ?_, fun hb2 => z2 hb2⟩
      obtain ⟨ec, dd, v, ed, hd, q⟩ := y2 hb2
      exact ⟨_, hset _ _ hl, rfl, ec, dd, _, v, ed, hd, look1 _ _, two _ _, q⟩
end L2

set_option Elab.async false
set_option linter.all false
set_option maxRecDepth 100000
set_option maxHeartbeats 4000000
/-! KeyKit: sorted(range(..), key=lambda i: text[i:]), the text a captured name. -/
namespace L2
open PySem PySem.Spec PyProof.Rows LamX
/-- the suffix of z from i on -/
def sufS (z : Str) (i : Int) : Str := cutS z (some i) none
theorem made_cut {z : Str} {t : Tok} {i : Int} {ti : Tok} {R : Value → Shared → Prop} {s : Shared} (hz : z.length ≤ sizeLine) (k : ∀ tk, R (.str (sufS z i) tk) { s with toks := s.toks } ∧ R (.str (sufS z i) tk) { s with toks := s.toks + 1 }) :
    (sliceMade z t (some (i, ti)) none none).post R s := by
  have hl : (PySem.StrLaws.sliceText z (some i) none).length ≤ sizeLine := by
    rw [sliceText_cut]
    exact Nat.le_trans (cutS_length z _ _) hz
  have e : sufS z i = PySem.StrLaws.sliceText z (some i) none := (sliceText_cut z (some i) none).symm
  rw [e] at k
  unfold PySem.StrLaws.sliceText at k hl
  show Made.post (if ((1 : Int) == 1 && (Builtin.Str.strSliceIndices (some i) none 1 z.length).length == z.length) = true then Made.val (.str z t)
    else Made.str ⟨((Builtin.Str.strSliceIndices (some i) none 1 z.length).filterMap (z.cps[·]?)).toArray⟩) R s
  by_cases c : ((1 : Int) == 1 && (Builtin.Str.strSliceIndices (some i) none 1 z.length).length == z.length) = true
  · rw [if_pos c] at k ⊢
    exact (k t).1
  · rw [if_neg c] at k hl ⊢
    exact ⟨hl, (k _).2⟩
/-- the lambda's own scope: one parameter, captured names -/
structure KeyScope (scope : Scope) (pl tx : Str) : Prop where
  kind : scope.kind = .function
  co : scope.isCoroutine = false
  gen : scope.isGenerator = false
  noCell : ∀ y ∈ scope.names, y.2 ≠ .cell
  par : scope.names.lookup pl = some .local
  cap : scope.names.lookup tx = some .free
def keyScB (scope : Scope) (pl tx : Str) : Bool := decide (scope.kind = .function) && !scope.isCoroutine && !scope.isGenerator && scope.names.all (fun y => !decide (y.2 = .cell)) && decide (scope.names.lookup pl = some .local) && decide (scope.names.lookup tx = some .free)
theorem keySc_by {scope : Scope} {pl tx : Str} (h : keyScB scope pl tx = true) : KeyScope scope pl tx := by
  unfold keyScB at h
  simp only [Bool.and_eq_true, Bool.not_eq_true', decide_eq_true_eq, List.all_eq_true, decide_eq_false_iff_not] at h
  obtain ⟨⟨⟨⟨⟨h1, h2⟩, h3⟩, h4⟩, h5⟩, h6⟩ := h
  exact ⟨h1, h2, h3, h4, h5, h6⟩
section
variable {prog : Program} {w : World} {A : Around} {s : Shared}
/-- one call of the key -/
theorem key_call {f c' c : Addr} {q : Str} {params : Arguments} {scope : Scope} {cl : List (Str × Addr)} {pm ctv : Value} {pl tx : Str} {p1 p2 p3 p4 : Pos} {z : Str} {tz ti : Tok} {i : Int} (KS : KeyScope scope pl tx) (hd : A.depth < recursionLimit)
    (of : s.heap.get? f = some (PySem.W.kla_obj "<lambda>" q params (.Subscript (.Name tx p1) (.Slice (some (.Name pl p2)) none none p3) p4) scope cl pm c' ctv)) (hcd : s.heap.CodeRec (.ref c') q)
    (hbind : ∀ u : Value, bindArgs (PySem.W.kla_fn "<lambda>" q params (.Subscript (.Name tx p1) (.Slice (some (.Name pl p2)) none none p3) p4) scope cl pm (.ref c') ctv) ⟨[u], []⟩ = pure [(pl, u)])
    (hcl : cl.lookup tx = some c) (hcell : s.heap.IsCell c (some (.str z tz))) (hz : z.length ≤ sizeLine) (nl : s.heap.NoLimit)
    (d1 : (tx == ("__debug__" : Str)) = false := by decide) (d2 : (pl == ("__debug__" : Str)) = false := by decide) (d3 : (tx == ("__classdict__" : Str)) = false := by decide) :
    wpAny (model prog w) A (call (.ref f) [.int i ti]) (PySem.W.KeyPure (.str (sufS z i)) s) (fun _ _ => False) s := by
  refine wpAny_call (codeAny_mono (R := fun r s' => ∃ v, r = .ok (.ret v) ∧ PySem.W.KeyPure (.str (sufS z i)) s v s') ?_ fun r s' hq => ?_)
  · refine PySem.W.kla_callFunE hd of rfl KS.co KS.gen rfl hcd ?_
    rw [hbind]
    refine wpAny_pure (wpAny_newFunctionEnv KS.noCell (fun y hy => by rw [List.mem_singleton.mp hy]; exact KS.par) (fun h₁ hns hsb => ⟨nl.fresh _ hsb, ?_⟩) KS.kind)
    have kp : ∀ b o, s.heap.get? b = some o → h₁.get? b = some o := fun b o e => hsb.extBut b o (Nat.ne_of_lt (Heap.lt_size e)) (Heap.get?_push_of_some _ e)
    have cell1 : h₁.IsCell c (some (.str z tz)) := by
      obtain ⟨o, ho, hdd⟩ := hcell
      exact ⟨o, kp _ _ ho, hdd⟩
    refine PySem.W.kla_codeExpr ?_
    refine wpAny_Subscript_str_slice (wpAny_Name (wpAny_loadName_free KS.kind KS.cap hcl cell1 ?_ d3) d1)
    refine evalPart_some_step (wpAny_Name (wpAny_loadName_local KS.kind KS.par hns (v := .int i ti) (by simp) ?_) d2)
    refine evalPart_none_step ⟨z, tz, some (i, ti), none, rfl, rfl, rfl, made_cut hz fun tk => ⟨⟨_, rfl, _, _, rfl, fun b o e => Heap.get?_push_of_some _ (kp _ _ e), .str _ _⟩, ⟨_, rfl, _, _, rfl, fun b o e => Heap.get?_push_of_some _ (kp _ _ e), .str _ _⟩⟩⟩
  · obtain ⟨v, rfl, k⟩ := hq
    exact k
end
end L2
namespace L2
open PySem PySem.Spec PyProof.Rows LamX NdefX
/-- a lambda's function object at f -/
def LamO (f : Addr) (F : NF) (e : Expr) : HO := .ext fun h => ∃ pm ctv : Value, h.get? f = some (PySem.W.kla_obj "<lambda>" F.qual F.params e F.scope F.cl pm F.c ctv)
section
variable {X : Cx} {pins : List (Addr × Obj)} {σ : L2.St} {H : Hp} {s : Shared}
theorem inv_lam {F : NF} {e : Expr} {t' : Nat} {pm ctv : Value} (I : Inv X pins σ H s) :
    Inv X pins σ (upd H s.heap.objs.size (LamO s.heap.objs.size F e)) { s with heap := s.heap.push (PySem.W.kla_obj "<lambda>" F.qual F.params e F.scope F.cl pm F.c ctv), toks := t' } := by
  refine I.laid (a := s.heap.objs.size) (fun b u q => Heap.get?_push_of_some _ q) (Nat.le_refl _) ?_
  have g : (s.heap.push (PySem.W.kla_obj "<lambda>" F.qual F.params e F.scope F.cl pm F.c ctv)).get? s.heap.objs.size = some (PySem.W.kla_obj "<lambda>" F.qual F.params e F.scope F.cl pm F.c ctv) := Heap.get?_push_size _ rfl
  exact ⟨⟨pm, ctv, g⟩, ⟨_, g⟩, fun h1 h2 ⟨p, t, z⟩ st => ⟨p, t, st _ z⟩⟩
/-- a lambda is made, its object known -/
theorem lam_make3 {T : List (Addr × Str)} {cc P : Addr} {ar : Arguments} {bd : Expr} {sc : Scope} {pos : Pos} {E : Value → Shared → Prop} {R : Value → Shared → Prop} (I : Inv X pins σ H s) (TB : TabB X.base X.mg cc P) (hcode : X.env.code = .ref cc)
    (hm : (P, X.env.qual ++ "<lambda>") ∈ T) (hu : ∀ p ∈ T, p.1 = P → p.2 = X.env.qual ++ "<lambda>") (hT : Tabs T H) (hdef : defaultsOf ar X.env = ([], [])) (hfr : ∀ y ∈ sc.names, y.2 = .free → ∃ c, X.env.cells.lookup y.1 = some c)
    (kk : ∀ (f c' : Addr) (H1 : Hp) (s' : Shared), Inv X pins σ H1 s' → ExtN H H1 → (∀ b, H1 b = Option.none → H b = Option.none) → Tabs T H1 → H f = none →
      H1 f = some (LamO f ⟨"<lambda>", X.env.qual ++ "<lambda>", ar, [], sc, cloFrom X.env.cells sc.names [], c'⟩ bd) → H1 c' = some (CodeO c' (X.env.qual ++ "<lambda>")) → (∀ b o, s.heap.get? b = some o → o.cls ≠ .none → s'.heap.get? b = some o) → R (.ref f) s') :
    wpAny (model X.prog X.w) X.A (eval (.Lambda ar bd sc pos) X.env) R E s := by
  obtain ⟨ps, gP, tr, am⟩ := hT _ hm
  refine PySem.W.kla_eval hdef ?_
  have bP : s.heap.BuiltinsAt X.mg P := TB.bm.keeps I.bk
  have gP' : s.heap.get? P = some { cls := .none, data := .fields ps } := I.hok P _ gP
  cases hc : codeAmong pos ps.toList with
  | none =>
    refine PySem.W.kla_makeFunction (mg := X.mg) (c := cc) (P := P) (ps := ps) (closure_ok hfr) I.ok.glob (I.mod.glob.keeps I.bk) hcode (TB.code.keeps I.bk) gP' tr hc TB.gP bP fun c' ctv h' tk hx hge hlt hrec htb => ?_
    obtain ⟨c2, oc, vs, t, e2, goc, hd, hv⟩ := hrec
    cases e2
    have nC : H c' = none := I.hok.fresh hge
    have J := inv_table (t' := tk) (more := #[rawInt pos.line, rawInt pos.col, .ref c']) (h' := h') I gP (fun b o hb q => hx b o hb q) htb hge ⟨oc, vs, t, goc, hd, hv⟩
    have ex : ExtN H (upd (upd H P (.tbl (ps ++ #[rawInt pos.line, rawInt pos.col, .ref c']))) c' (CodeO c' (X.env.qual ++ "<lambda>"))) := fun b o q nt => by
      rw [upd_ne (ne_of_none q nC), upd_ne (fun z => nt ps (Option.some.inj (q.symm.trans (by rw [z]; exact gP))))]; exact q
    have el : (ps ++ #[rawInt pos.line, rawInt pos.col, .ref c']).toList = ps.toList ++ [rawInt pos.line, rawInt pos.col, .ref c'] := by simp
    have T1 : Tabs T (upd (upd H P (.tbl (ps ++ #[rawInt pos.line, rawInt pos.col, .ref c']))) c' (CodeO c' (X.env.qual ++ "<lambda>"))) := fun p hp => by
      by_cases hb : p.1 = P
      · rw [hu p hp hb, hb]
        refine ⟨_, by rw [upd_ne (ne_of_none gP nC), upd_same], by rw [el]; exact PySem.TriplesOk_snoc _ _ _ _ tr, fun p' cv hcv => ?_⟩
        rw [el] at hcv
        rcases among_app _ tr hcv with z | z
        · obtain ⟨c0, q1, q2⟩ := am p' cv z; exact ⟨c0, q1, ex _ _ q2 codeO_ne⟩
        · exact ⟨c', z, upd_same⟩
      · obtain ⟨ps', a1, a2, a3⟩ := hT p hp
        refine ⟨ps', by rw [upd_ne (ne_of_none a1 nC), upd_ne hb]; exact a1, a2, fun p' cv hcv => ?_⟩
        obtain ⟨c0, q1, q2⟩ := a3 p' cv hcv; exact ⟨c0, q1, ex _ _ q2 codeO_ne⟩
    have nF := J.hok.fresh (Nat.le_refl _)
    have J2 := inv_lam (F := ⟨"<lambda>", X.env.qual ++ "<lambda>", ar, [], sc, cloFrom X.env.cells sc.names [], c'⟩) (e := bd) (t' := tk) (pm := (X.mg "__name__").getD .none) (ctv := ctv) J
    refine kk h'.objs.size c' _ _ J2 (fun b o q n => (upd_ne (ne_of_none (ex b o q n) nF)).trans (ex b o q n)) (fun b q => upd_none (upd_none (upd_none q))) (T1.ext fun b o q => (upd_ne (ne_of_none q nF)).trans q) (I.hok.fresh (Nat.le_trans hge (Nat.le_of_lt hlt))) upd_same ?_ ?_
    · exact (upd_ne (Nat.ne_of_lt hlt)).trans upd_same
    · exact fun b o q nc => Heap.get?_push_of_some _ (hx b o (fun z => by rw [z, gP'] at q; cases q; exact nc rfl) q)
  | some cv =>
    obtain ⟨c', q, gc⟩ := am pos cv hc
    subst q
    refine PySem.W.kla_makeFunctionHit (mg := X.mg) (c := cc) (P := P) (ps := ps) (closure_ok hfr) I.ok.glob (I.mod.glob.keeps I.bk) hcode (TB.code.keeps I.bk) gP' tr hc bP fun ctv h' tk hx hsz => ?_
    have J : Inv X pins σ H { s with heap := h', toks := tk } := I.kept hx
    have nF : H h'.objs.size = none := J.hok.fresh (Nat.le_refl _)
    have J2 := inv_lam (F := ⟨"<lambda>", X.env.qual ++ "<lambda>", ar, [], sc, cloFrom X.env.cells sc.names [], c'⟩) (e := bd) (t' := tk) (pm := (X.mg "__name__").getD .none) (ctv := ctv) J
    refine kk h'.objs.size c' _ _ J2 (fun b o q n => (upd_ne (ne_of_none q nF)).trans q) (fun b q => upd_none q) (hT.ext fun b o q => (upd_ne (ne_of_none q nF)).trans q) nF upd_same ?_ ?_
    · exact (upd_ne (ne_of_none gc nF)).trans gc
    · exact fun b o q _ => Heap.get?_push_of_some _ (hx b o q)
end
section
variable {prog : Program} {w : World} {A : Around} {E : Value → Shared → Prop} {s : Shared}
/-- sorted(r, key=f), r a range -/
theorem sorted_rng_key {r f : Addr} {n : Nat} {t u v : Tok} {k : Int → PyData} {R : Value → Shared → Prop} (hh : A.handled = none) (gr : IsRange s.heap r 0 n 1 t u v) (hn : n ≤ 2 ^ 20)
    (hal : PySem.W.AllAlike (((List.range n).map fun i => (0 : Int) + (i : Nat) * 1).map k)) (hk : PySem.W.Sortable (((List.range n).map fun i => (0 : Int) + (i : Nat) * 1).map k)) (hu : ∀ x, A.units + 2 + (k x).depth < cLine)
    (turn : ∀ (x : Int) (tx : Tok) (h : Heap) (tk : Nat), (∀ b o, s.heap.get? b = some o → h.get? b = some o) →
      wpAny (model prog w) A.in1.in1 (call (.ref f) [.int x tx]) (PySem.W.KeyPure (k x) { s with heap := h, toks := tk }) (fun _ _ => False) { s with heap := h, toks := tk })
    (fin : ∀ (g0 : Heap) (tk0 : Nat) (out : List Value) (c : Nat) (h' : Heap) (tk : Nat), (∀ b o, s.heap.get? b = some o → g0.get? b = some o) → (∀ b o, g0.get? b = some o → h'.get? b = some o) → h'.get? g0.objs.size = some (seqObj "list" (List.toArray out) c) →
      Vals ((((List.range n).map fun i => (0 : Int) + (i : Nat) * 1).mergeSort (PySem.W.dataLe false k)).map V.int) out → R (.ref g0.objs.size) { s with heap := h', toks := tk }) :
    wpAny (model prog w) A (call (.builtin "sorted") [.ref r] [(Str.ofString "key", .ref f)]) R E s := by
  refine PyProof.Rows.call_function_entry_kw PyProof.Rows.kind_sorted PyProof.Rows.plain_sorted PyProof.Rows.entry_sorted (PyProof.Rows.ksk_s1 _ _) ?_
  unfold Builtin.«sorted»
  refine wpAny_bind (m := checkCount "sorted" 1 1 _) (wpAny_pure ?_)
  have hz : sizeLine = 2 ^ 24 := sizeLine_eq
  have hsm : Builtin.Range.small 0 (n : Int) 1 = true := small_one (by omega) (by omega) (by omega) (by omega)
  have hrs : Builtin.Range.rangeSize 0 (n : Int) 1 = (n : Nat) := by rw [PyProof.Rows.rangeSize_nat]; omega
  refine wpAny_bind (collect_range (A := A.in1) (n := n) hh gr hsm hrs (by omega) fun h' tk acc hkp hi => ?_)
  have hlen : acc.toList.length = n := by rw [Array.length_toList]; exact hi.1
  refine wpAny_bind (wpAny_newList ?_ (by omega))
  have e : PySem.W.EachIs (fun v x => RelV (V.int x) v) acc.toList ((List.range n).map fun i => (0 : Int) + (i : Nat) * 1) := by
    have rv : Vals (((List.range acc.toList.length).map fun i : Nat => V.int ((0 : Int) + (i : Nat) * 1))) acc.toList := vals_of_get acc.toList _ fun j u hj => by
      obtain ⟨t, rfl⟩ := hi.2 j u (by rw [← hj, Array.getElem?_toList])
      exact ⟨t, rfl⟩
    rw [hlen] at rv
    have ee : (List.range n).map (fun i : Nat => V.int ((0 : Int) + (i : Nat) * 1)) = ((List.range n).map fun i => (0 : Int) + (i : Nat) * 1).map V.int := by rw [List.map_map]; rfl
    rw [ee] at rv
    have conv : ∀ {xs : List Int} {us : List Value}, Vals (xs.map V.int) us → PySem.W.EachIs (fun v x => RelV (V.int x) v) us xs := fun {xs us} h => by
      induction xs generalizing us with
      | nil => cases h; exact .nil
      | cons x xs ih =>
        cases h with
        | cons h1 h2 => exact .cons h1 (ih h2)
    exact conv rv
  have ga : (h'.push (seqObj "list" acc.toList.toArray 0)).get? h'.objs.size = some (seqObj "list" acc.toList.toArray 0) := Heap.get?_push_size _ rfl
  have old0 : ∀ {g : Heap}, PySem.W.KeepsBut h'.objs.size (h'.push (seqObj "list" acc.toList.toArray 0)) g → ∀ b o, h'.get? b = some o → g.get? b = some o := fun {g} kp b o q => kp b o (Nat.ne_of_lt (Heap.lt_size q)) (Heap.get?_push_of_some _ q)
  have old : ∀ {g : Heap}, PySem.W.KeepsBut h'.objs.size (h'.push (seqObj "list" acc.toList.toArray 0)) g → ∀ b o, s.heap.get? b = some o → g.get? b = some o := fun {g} kp b o q => old0 kp b o (hkp _ _ q)
  show wpAny _ _ _ _ _ { s with heap := h'.push (seqObj "list" acc.toList.toArray 0), toks := tk }
  refine wpAny_bind (wpAny_holding (PySem.W.list_sort_key_data (A := A.in1) (b := false) (s := { s with heap := h'.push (seqObj "list" acc.toList.toArray 0), toks := tk }) (R := fun v x => RelV (V.int x) v) (bs := (List.range n).map fun i => (0 : Int) + (i : Nat) * 1) k ga e hal hk (by rw [List.length_map, List.length_range]; omega) (fun x _ => hu x) (PyProof.Rows.ksk_l1 _ _) (PyProof.Rows.ksk_t1 _ _)
    (fun v x hv _ g tk2 kp => by
      obtain ⟨tx, rfl⟩ := hv
      exact turn x tx g tk2 (old kp)) fun out c g tk2 kp go _ eo => ?_))
  have back : ∀ {xs : List Int} {us : List Value}, PySem.W.EachIs (fun v x => RelV (V.int x) v) us xs → Vals (xs.map V.int) us := fun {xs us} h => by
    induction h with
    | nil => exact .nil
    | cons h1 _ ih => exact .cons h1 ih
  exact wpAny_pure ⟨_, rfl, fin h' tk out c g tk2 hkp (old0 kp) go (back eo)⟩
end
end L2
namespace L2
open PySem PySem.Spec PyProof.Rows LamX NdefX
/-- suffixes of unlike places are unlike -/
def sufK (z : Str) (i : Int) : PyData := .str (sufS z i)
/-- the places of z's suffixes in their order -/
def ordM (z : Str) : List Int := isort (dle (sufK z)) ((List.range z.length).map fun i => (0 : Int) + (i : Nat) * 1)
theorem suf_len (z : Str) (i : Nat) (h : i ≤ z.length) : (sufS z (i : Int)).length = z.length - i := by
  unfold sufS cutS HT.sIx
  show (⟨_⟩ : Str).cps.size = _
  simp only [List.size_toArray, List.length_take, List.length_drop, Array.length_toList]
  show min (z.cps.size - (if (i : Int) < 0 then _ else min (i : Int).toNat z.cps.size)) (z.cps.size - (if (i : Int) < 0 then _ else min (i : Int).toNat z.cps.size)) = z.cps.size - i
  rw [if_neg (by omega), show ((i : Int)).toNat = i by omega]
  have h2 : i ≤ z.cps.size := h
  omega
theorem ord_sorted (z : Str) : ((List.range z.length).map fun i => (0 : Int) + (i : Nat) * 1).mergeSort (PySem.W.dataLe false (sufK z)) = ordM z := by
  refine msort_isort (dle (sufK z)) (dle_trans _) (dle_total _) _ fun x hx y hy a b => ?_
  obtain ⟨i, hi, rfl⟩ := List.mem_map.mp hx
  obtain ⟨j, hj, rfl⟩ := List.mem_map.mp hy
  have hi := List.mem_range.mp hi
  have hj := List.mem_range.mp hj
  have e := dle_anti a b
  simp only [sufK, PySem.W.keyToks, List.cons.injEq, Sum.inr.injEq, and_true] at e
  have e2 := congrArg List.length e
  rw [Array.length_toList, Array.length_toList] at e2
  have l1 := suf_len z i (by omega)
  have l2 := suf_len z j (by omega)
  have e3 : (sufS z ((0 : Int) + (i : Nat) * 1)).length = (sufS z ((0 : Int) + (j : Nat) * 1)).length := e2
  rw [show ((0 : Int) + (i : Nat) * 1) = ((i : Nat) : Int) by omega, show ((0 : Int) + (j : Nat) * 1) = ((j : Nat) : Int) by omega, l1, l2] at e3
  omega
section
variable {X : Cx}
def tSufSort (T : List (Addr × Str)) (j : Nat) (te : St → Hp → (Int → Int → Hp → Prop) → Prop) : TE := fun σ H Q => te σ H fun a b H1 => ∃ z : Str, σ[j]? = some (some (.str z)) ∧ a = 0 ∧ b = ((z.length : Nat) : Int) ∧ z.length ≤ 1000 ∧ Tabs T H1 ∧
  ∀ (p : Addr) (H2 : Hp), ExtN H1 H2 → (∀ b, H2 b = none → H1 b = none) → Tabs T H2 → H2 p = some (.lst ((ordM z).map V.int)) → H1 p = none → Q (.ref p) H2
/-- sorted(range(..), key=lambda i: text[i:]) -/
theorem pe_sortSuf {T : List (Addr × Str)} {cc P : Addr} {ar : Arguments} {sc : Scope} {pl tx : Str} {e : Expr} {te : St → Hp → (Int → Int → Hp → Prop) → Prop} {j k : Nat} {p pos kpos lpos p1 p2 p3 p4 : Pos} (hc : X.calm = true) (hr : Room (k + 1) X.A)
    (hg : Gl X "sorted") (hm : X.mg "sorted" = none) (he : PRg X e te) (TB : TabB X.base X.mg cc P) (hcode : X.env.code = .ref cc) (hmT : (P, X.env.qual ++ "<lambda>") ∈ T) (hu : ∀ p ∈ T, p.1 = P → p.2 = X.env.qual ++ "<lambda>")
    (KS : KeyScope sc pl tx) (hdef : defaultsOf ar X.env = ([], [])) (hfree : ∀ y ∈ sc.names, y.2 = .free → X.env.scope.names.lookup y.1 = some .cell ∨ X.env.scope.names.lookup y.1 = some .free)
    (hbind : ∀ (q : Str) (cl : List (Str × Addr)) (pm cv ctv u : Value), bindArgs (PySem.W.kla_fn "<lambda>" q ar (.Subscript (.Name tx p1) (.Slice (some (.Name pl p2)) none none p3) p4) sc cl pm cv ctv) ⟨[u], []⟩ = pure [(pl, u)])
    (hN : X.N[j]? = some tx) (na : starEach [e] X.env = (false, eval e X.env) :: starEach [] X.env := by rfl)
    (d1 : (tx == ("__debug__" : Str)) = false := by decide) (d2 : (pl == ("__debug__" : Str)) = false := by decide) (d3 : (tx == ("__classdict__" : Str)) = false := by decide)
    (hb1 : backTo pos (starEach [e] X.env) = (false, eval e X.env) :: backTo pos (starEach [] X.env) := by rfl) (hb2 : (backTo pos (starEach [e] X.env)).any (·.1) = false := by rfl)
    (hb3 : ∀ l : Expr, (backToKw pos (keywordEach [⟨some "key", l, kpos⟩] X.env)).all (·.1.isSome) = true := by intro _; rfl) (hb4 : ∀ l : Expr, (backToKw pos (keywordEach [⟨some "key", l, kpos⟩] X.env)).any (·.1.isNone) = false := by intro _; rfl)
    (hb5 : ∀ l : Expr, (backToKw pos (keywordEach [⟨some "key", l, kpos⟩] X.env)).filterMap (·.1) = [("key" : Str)] := by intro _; rfl) :
    PE X (.Call (.Name "sorted" p) [e] [⟨some "key", .Lambda ar (.Subscript (.Name tx p1) (.Slice (some (.Name pl p2)) none none p3) p4) sc lpos, kpos⟩] pos) (tSufSort T j te) := by
  refine ⟨fun pins s σ H Q I h => ?_⟩
  refine wpAny_Call_Name_kw (ld_blt I hg hm PyProof.Rows.boot_sorted ?_)
  refine PyProof.Rows.callWith_kw (args_cons (thn (he pins s σ H _ I h) fun x s1 ⟨r, a, b, t, u, v, H1, ex, gr, I1, q1⟩ => args_nil ?_) na) hb1 hb2 (hb3 _) (hb4 _)
  obtain ⟨z, hσ, rfl, rfl, hz, hT, q⟩ := q1
  subst ex
  rw [hb5]
  show wpAny _ _ (evalAll ((do let v ← eval (.Lambda ar (.Subscript (.Name tx p1) (.Slice (some (.Name pl p2)) none none p3) p4) sc lpos) X.env; standAt pos; pure v) :: [])) _ _ s1
  have hcells : ∀ y ∈ sc.names, y.2 = .free → ∃ c, X.env.cells.lookup y.1 = some c := fun y hy e => (hfree y hy e).elim (fun z => I.ok.has _ (.inl z)) fun z => I.ok.has _ (.inr z)
  refine wpAny_evalAll_cons (wpAny_bind (lam_make3 I1 TB hcode hmT hu hT hdef hcells fun f c' H2 s2 I2 ex2 mn T2 nf gf gc kps => wpAny_bind (wpAny_standAt (wpAny_pure (wpAny_pure ?_)))))
  have gr2 : IsRange s2.heap r 0 ((z.length : Nat) : Int) 1 t u v := kps _ _ gr (by intro q; cases q)
  have hz1 : sizeLine = 2 ^ 24 := sizeLine_eq
  have hdep : ∀ x, (sufK z x).depth = 0 := fun x => rfl
  show wpAny _ _ (call (.builtin "sorted") [.ref r] [(Str.ofString "key", .ref f)]) _ _ s2
  refine sorted_rng_key (n := z.length) (k := sufK z) (I2.ok.hd hc) gr2 (by omega) ?_ ?_ (fun x => by rw [hdep]; have := hr.units; omega) ?_ ?_
  · intro d hd d' hd'
    obtain ⟨x, _, rfl⟩ := List.mem_map.mp hd
    obtain ⟨y, _, rfl⟩ := List.mem_map.mp hd'
    rfl
  · refine .inr fun d hd => ?_
    obtain ⟨x, _, rfl⟩ := List.mem_map.mp hd
    exact ⟨fun z => (by cases z), fun xs z => (by cases z)⟩
  · intro x tx2 g tk kp
    have J : Inv X pins σ H2 { s2 with heap := g, toks := tk } := I2.kept kp
    obtain ⟨pm, ctv, gfo⟩ := (show ObjOk X.prog X.w H2 g f _ from J.hok f _ gf).1
    have cp : Caps X (cloFrom X.env.cells sc.names []) [tx] [j] := Caps.made J.ok hfree (fun y hy => by rw [List.mem_singleton.mp hy]; exact PySem.mem_of_lookup KS.cap) (by rw [List.map_cons, List.map_cons, hN]; rfl)
    have ca := cells_of J cp
    obtain ⟨c, hcl, hcv⟩ := ca.has 0 tx rfl
    obtain ⟨u0, ru, cell⟩ := hcv (.str z) (by rw [List.map_cons, slotAt_of hσ]; rfl)
    obtain ⟨tz, rfl⟩ := ru
    exact key_call (s := { s2 with heap := g, toks := tk }) KS hr.depth gfo (codeO_at J.hok gc) (fun u => hbind _ _ _ _ _ u) hcl cell (by omega) J.nolimit d1 d2 d3
  · intro g0 tk0 out c h' tk e1 e2 go rv
    have J0 : Inv X pins σ H2 { s2 with heap := g0, toks := tk0 } := I2.kept e1
    have nP := J0.hok.fresh (Nat.le_refl _)
    rw [ord_sorted] at rv
    have hlen : ((ordM z).map V.int).length ≤ sizeLine := by
      have := (isort_perm (dle (sufK z)) ((List.range z.length).map fun i => (0 : Int) + (i : Nat) * 1)).length_eq
      rw [List.length_map, List.length_range] at this
      rw [List.length_map]
      unfold ordM
      omega
    refine ⟨.ref g0.objs.size, upd H2 g0.objs.size (.lst ((ordM z).map V.int)), J0.laid (t' := tk) e2 (Nat.le_refl _) ⟨hlen, out, c, rv, go⟩, rfl, ?_⟩
    refine q _ _ (fun b o e n => ?_) (fun b e => mn b (upd_none e)) (T2.ext fun b o e => (upd_ne (ne_of_none e nP)).trans e) upd_same (mn _ nP)
    exact (upd_ne (ne_of_none (ex2 b o e n) nP)).trans (ex2 b o e n)
end
end L2

set_option Elab.async false
set_option linter.all false
set_option maxRecDepth 100000
set_option maxHeartbeats 4000000
/-! SortTup: sorted(t) of a tuple of ints. -/
namespace L2
open PySem PySem.Spec PyProof.Rows
section
variable {prog : Program} {w : World} {A : Around} {E : Value → Shared → Prop} {s : Shared}
theorem collect_tupT {t : Addr} {us : List Value} {R : List Value → Shared → Prop} (tu : IsTup s.heap t us.toArray) (sz : us.length ≤ sizeLine)
    (kk : R us { s with heap := (s.heap.push (seqObj "list" #[] 0)).update s.heap.objs.size (Obj.mapSeq (· ++ us.toArray)) }) : wpAny (model prog w) A (collect (.ref t)) R E s := by
  obtain ⟨ob, gb, cb, nb, db⟩ := id tu
  unfold collect
  refine wpAny_bind (wpAny_runValue (codeAny_builtin PyProof.Rows.entry_proto_collect' ?_)); show wpAny _ _ (do again (.builtin "list.__iadd__" ⟨[← newList [], .ref t], []⟩)) _ _ s
  refine wpAny_bind (wpAny_newList (wpAny_pure ⟨Code.quiet_builtin _ (by decide +kernel), codeAny_builtin PyProof.Rows.entry_list_iadd' ?_⟩)); show wpAny _ _ (Builtin.List.listExtendWith (.ref s.heap.objs.size) (.ref t) (.ref s.heap.objs.size)) _ _ { s with heap := s.heap.push (seqObj "list" #[] 0) }
  unfold Builtin.List.listExtendWith
  have gb' : (s.heap.push (seqObj "list" #[] 0)).get? t = some ob := Heap.get?_push_of_some _ gb
  refine wpAny_bind (wpAny_typeOf (T := "tuple") ⟨ob, gb', cb⟩ ?_)
  have tt : (Value.type "tuple" == Value.type "tuple") = true := by rfl
  rw [if_pos (by rw [tt]; simp)]
  refine wpAny_bind (PyProof.Rows.listItems_at gb' db ?_); refine wpAny_bind (PyProof.Rows.listItems_at (xs := #[]) (n := 0) (Heap.get?_push_size _ rfl) rfl ?_)
  rw [if_neg (by simp)]
  refine wpAny_bind (PyProof.Rows.listUpdate_at (xs := #[]) (n := 0) (Heap.get?_push_size _ rfl) rfl ?_ (Nat.zero_le _) (by show (#[] ++ us.toArray).size ≤ sizeLine + 1; simp only [Array.size_append, List.size_toArray, List.length_nil]; omega)); refine wpAny_pure ?_
  show wpAny (model prog w) A (do
      let ob ← load s.heap.objs.size
      match ob.data with | .seq xs _ => pure xs.toList | _ => unsupported "internal:collect") R E { s with heap := (s.heap.push (seqObj "list" #[] 0)).update s.heap.objs.size (Obj.mapSeq (· ++ us.toArray)) }
  refine wpAny_bind (wpAny_load (PyProof.Rows.get?_update_seq (Heap.get?_push_size _ rfl) _) ?_); show wpAny _ _ (pure ((#[] : Array Value) ++ us.toArray).toList) R E _
  rw [show ((#[] : Array Value) ++ us.toArray).toList = us by simp]
  exact wpAny_pure kk
/-- sorted(t), t a tuple -/
theorem sorted_ordT {t : Addr} {us : List Value} {ltv : Value → Value → Bool} {R : Value → Shared → Prop} (O : SrtO.Swo ltv) (tu : IsTup s.heap t us.toArray) (sz : us.length ≤ sizeLine)
    (srt : 2 ≤ us.length → ∀ (h₁ : Heap) (a : Addr), h₁.get? a = some (seqObj "list" us.toArray 0) → (∀ b o, s.heap.get? b = some o → b ≠ a ∧ h₁.get? b = some o) → SrtO.SortableO prog w A.in1.in1 { s with heap := h₁ } a us ltv)
    (kk : ∀ out : List Value, SrtO.Srtd ltv out → SrtO.Stb ltv out us → R (.ref (s.heap.objs.size + 1)) { s with heap := sortedAll s.heap us out.toArray }) : wpAny (model prog w) A (call (.builtin "sorted") [.ref t]) R E s := by
  refine Calls.call_function_entry PyProof.Rows.kind_sorted PyProof.Rows.plain_sorted PyProof.Rows.entry_sorted (PyProof.Rows.args_sorted1 _) ?_
  unfold Builtin.«sorted»
  refine wpAny_bind (m := checkCount "sorted" 1 1 _) (wpAny_pure ?_); refine wpAny_bind (collect_tupT tu sz ?_); refine wpAny_bind (wpAny_newList ?_ sz)
  have e1 : ((s.heap.push (seqObj "list" #[] 0)).update s.heap.objs.size (Obj.mapSeq (· ++ us.toArray))).objs.size = s.heap.objs.size + 1 := by rw [Heap.size_update, size_push']
  have e2 : (((s.heap.push (seqObj "list" #[] 0)).update s.heap.objs.size (Obj.mapSeq (· ++ us.toArray))).push (seqObj "list" us.toArray 0)).get? (s.heap.objs.size + 1) = some (seqObj "list" us.toArray 0) := by rw [← e1]; exact Heap.get?_push_size _ rfl
  have kp : ∀ b o, s.heap.get? b = some o → b ≠ s.heap.objs.size + 1 ∧ (((s.heap.push (seqObj "list" #[] 0)).update s.heap.objs.size (Obj.mapSeq (· ++ us.toArray))).push (seqObj "list" us.toArray 0)).get? b = some o := fun b o q => by
    have lt : b < s.heap.objs.size := Heap.lt_size q
    refine ⟨Nat.ne_of_lt (Nat.lt_succ_of_lt lt), Heap.get?_push_of_some _ ?_⟩
    rw [Heap.get?_update_ne _ _ _ _ (Nat.ne_of_lt lt)]; exact Heap.get?_push_of_some _ q
  show wpAny _ _ _ _ _ { s with heap := ((s.heap.push (seqObj "list" #[] 0)).update s.heap.objs.size (Obj.mapSeq (· ++ us.toArray))).push (seqObj "list" us.toArray 0) }
  rw [e1]
  refine wpAny_bind (wpAny_holding (wpAny_call_entry PyProof.Rows.slot_list_sort ⟨_, e2, rfl⟩ PyProof.Rows.entry_list_sort (SrtO.list_sort_ord O e2 sz (fun h2 => srt h2 _ _ e2 kp) fun out hs hb => ⟨_, rfl, ?_⟩) (PyProof.Rows.args_list_sort _)))
  exact wpAny_pure ⟨_, rfl, kk out hs hb⟩
end
section
variable {X : Cx}
def rSortedTI (K : PySem.W.Frag) : List V → Hp → VK → Prop := fun vs H Q => ∃ (a : Addr) (ns : List Int), vs = [V.ref a] ∧ SqT K H a (ns.map V.int) ∧ ∀ (ms : List Int) (p : Addr), ms.Perm ns → ms.Pairwise (· ≤ ·) → H p = none → Q (.ref p) (upd H p (.lst (ms.map V.int)))
theorem cr_sortedTI : CallR X (.builtin "sorted") (rSortedTI X.K) := by
  intro pins s σ H vs us Q I r h
  obtain ⟨a, ns, rfl, ht, q⟩ := h
  obtain ⟨its, rv, tu, hz⟩ := I.tuple ht
  rw [Vals.ref1 r]
  have hi := rv.ints
  refine sorted_ordT SrtO.swo_int tu (by rw [← rv.length]; exact hz) (fun h2 h₁ a' _ _ => SrtO.ints_sortable hi h2) fun out g1 g2 => ?_
  obtain ⟨k1, k2, k3⟩ := SrtO.ints_out hi g1 g2
  obtain ⟨ep, gp⟩ := PyProof.Rows.sortedAll_at s.heap its out.toArray
  have hl : ((out.map SrtO.iv).map V.int).length ≤ sizeLine := by rw [List.length_map, k2.length_eq]; rw [List.length_map] at hz; exact hz
  refine ⟨.ref _, upd H (s.heap.objs.size + 1) (.lst ((out.map SrtO.iv).map V.int)), I.laid (t' := s.toks) (fun _ _ => PyProof.Rows.sortedAll_old) (Nat.le_succ _) ⟨hl, out, ep, vals_of_ints k1, gp⟩, rfl, ?_⟩
  exact q _ _ k2 k3 (I.hok.fresh (Nat.le_succ _))
end
end L2

set_option Elab.async false
set_option linter.all false
set_option maxRecDepth 100000
set_option maxHeartbeats 4000000
/-! EnumS: enumerate of a text, in a for or a comprehension. -/
namespace L2
open PySem PySem.Spec PyProof.Rows
def Ites (z : Str) : It :=
  ⟨fun i _ => i < z.cps.size, fun i H v H' => ∃ T c, v = .ref T ∧ H T = none ∧ H' = upd H T (.tup [.int (i : Nat), .str ⟨#[c]⟩]) ∧ z.cps[i]? = some c, fun i _ => z.cps.size ≤ i⟩
theorem draws_text {P : Program} {w : World} {A : Around} (hh : A.handled = none) (it : Addr) (x : Str) (t : Tok) :
    Draws P w A it [it] x.cps.size (fun i v => ∃ c u, x.cps[i]? = some c ∧ v = .str ⟨#[c]⟩ u) (fun i h => h.IsStrIter it (strIterType x) x t i) := by
  unfold strIterType
  by_cases h : x.cps.all (· < 128) = true
  · rw [if_pos h]
    exact Draws.strAscii hh it x t
  · rw [if_neg h]
    exact Draws.strWide hh it x t
theorem turn_enumS {P : Program} {w : World} {K : PySem.W.Frag} {elts : List Expr} {kk : Nat} {tpos : Pos} (z : Str) (t : Tok) (e it : Addr) :
    Turn P w K (.Tuple elts kk tpos) (Ites z) [e, it] e (fun i h => (∃ old, IsEnum h e it ((i : Nat) : Int) old) ∧ i ≤ z.cps.size ∧ h.IsStrIter it (strIterType z) z t i ∧ e ≠ it) where
  mem := by simp
  obj := fun i h st b hb => by
    obtain ⟨⟨old, he⟩, _, ⟨o, ho, hc, hd⟩, _⟩ := st
    have e' : b = e ∨ b = it := by simpa using hb
    rcases e' with q | q
    · rw [q]
      exact ⟨_, he, fun v y => nomatch y⟩
    · rw [q]
      refine ⟨o, ho, fun v y => ?_⟩
      rw [hd] at y
      cases y
  keep := fun i h h' st k => by
    obtain ⟨⟨old, he⟩, hi, ⟨o, ho, r⟩, hne⟩ := st
    exact ⟨⟨old, k e (by simp) _ he⟩, hi, ⟨o, k it (by simp) _ ho, r⟩, hne⟩
  item := by
    intro X hP hw hK hc i pins s σ H E I hf st hg
    subst hP hw hK
    obtain ⟨⟨old, he⟩, _, hit, hne⟩ := st
    have hg : i < z.cps.size := hg
    have hel : e < s.heap.objs.size := Heap.lt_size he
    have hil : it < s.heap.objs.size := by
      obtain ⟨_, q, _⟩ := hit
      exact Heap.lt_size q
    have hh : X.A.in1.handled = none := by simp [I.ok.hd hc]
    refine wpAny_pyNext_enum_itemD (draws_text hh it z t) he hit hg hne (by simpa using hne) fun x h' tk hx ho hit' hT hsz hk => ?_
    obtain ⟨c, u, hz, rfl⟩ := hx
    refine ⟨_, rfl, wpAny_letOwnedTupleGo_enum (s := { s with heap := h', toks := tk + 1 }) ho fun h'' he' sb => ?_⟩
    have hT2 : h''.get? s.heap.objs.size = some { cls := .type "tuple", data := .seq #[.int i tk, .str ⟨#[c]⟩ u] } := (sb.2 _ (Nat.ne_of_gt hel)).trans hT
    have new : ObjOk X.prog X.w (upd H s.heap.objs.size (.tup [.int (i : Nat), .str ⟨#[c]⟩])) h'' s.heap.objs.size (.tup [.int (i : Nat), .str ⟨#[c]⟩]) :=
      ⟨by show 2 ≤ sizeLine; decide, [.int i tk, .str ⟨#[c]⟩ u], .cons ⟨_, rfl⟩ (.cons ⟨_, rfl⟩ .nil), ⟨_, hT2, rfl, _, rfl⟩⟩
    have J : Inv X pins σ (upd H s.heap.objs.size (.tup [.int (i : Nat), .str ⟨#[c]⟩])) { s with heap := h'', toks := tk + 1 } :=
      I.turnedNew (ch := [e, it]) (fun b ob hb q => (sb.2 b (fun y => hb (by simp [y]))).trans (hk b ob (fun y => hb (by simp [y])) (fun y => hb (by simp [y])) q)) hf (Nat.le_refl _) new
    refine ⟨.ref s.heap.objs.size, _, J, rfl, ⟨_, c, rfl, I.hok.fresh (Nat.le_refl _), rfl, hz⟩, ⟨⟨.str ⟨#[c]⟩ u, ?_⟩, hg, ?_, hne⟩, fun b hb => ?_⟩
    · have e1 : ((i + 1 : Nat) : Int) = (i : Int) + 1 := by omega
      rw [e1]
      exact he'
    · obtain ⟨o, q, r⟩ := hit'
      exact ⟨o, (sb.2 it (Ne.symm hne)).trans q, r⟩
    · have hb' : b < s.heap.objs.size := by
        have e' : b = e ∨ b = it := by simpa using hb
        rcases e' with y | y
        · rw [y]
          exact hel
        · rw [y]
          exact hil
      rw [upd_ne (Nat.ne_of_lt hb')]
      exact (hf b hb).1
  done := by
    intro X hP hw hK hc i pins s σ H E I hf st hg
    subst hP hw hK
    obtain ⟨⟨old, he⟩, hi, hit, hne⟩ := st
    have hg : z.cps.size ≤ i := hg
    have hii : i = z.cps.size := by omega
    subst hii
    obtain ⟨f0, f1, f2, f3, f4, f5⟩ := hf it (by simp)
    have hh : X.A.in1.handled = none := by simp [I.ok.hd hc]
    exact wpAny_pyNext_enum_endD (draws_text hh it z t) he hit fun h' eb => ⟨rfl, I.turned (t' := s.toks) (fun b o hb q => eb b o hb q) f0 f1 f3 f4 f5⟩
  self := fun A i s Q E st h => let ⟨⟨_, he⟩, _⟩ := st; wpAny_pyIter_enum he h
def iEnumS (ta : TA) : TI := fun σ H R => ta σ H fun vs H1 => ∃ z, vs = [.str z] ∧ R (Ites z) H1
theorem pi_enumS {X : Cx} {e : Expr} {ta : TA} {p pos tpos : Pos} {elts : List Expr} {kk : Nat} (hg : Gl X "enumerate") (hm : X.mg "enumerate" = none) (ha : PA X [e] ta) (hs : starEach [e] X.env = [(false, eval e X.env)] := by rfl) :
    PI X (.Tuple elts kk tpos) (.Call (.Name "enumerate" p) [e] [] pos) (iEnumS ta) := by
  refine ⟨fun pins s σ H R I h => ?_⟩
  refine Call_ (ld_blt I hg hm boot_enumerate (PyProof.Rows.callWith_type1 (thn (ha.run pos pins s σ H _ I h) fun us s1 ⟨vs, H1, I1, r1, q1⟩ => ?_) hs rfl))
  obtain ⟨z, ex, q⟩ := q1
  subst ex
  cases r1 with
  | cons r rr =>
    cases rr
    obtain ⟨t, rfl⟩ := r
    refine call_enumerate_str fun h' he hit hsz hk => wpAny_pyIter_enum he ?_
    have I2 : Inv X pins σ H1 { s1 with heap := h' } := I1.kept (t' := s1.toks) hk
    refine ⟨s1.heap.objs.size + 1, [s1.heap.objs.size + 1, s1.heap.objs.size], _, _, H1, rfl, I2, turn_enumS z t (s1.heap.objs.size + 1) s1.heap.objs.size, ⟨⟨.none, he⟩, Nat.zero_le _, hit, Nat.succ_ne_self _⟩, fun b hb => ?_, q⟩
    have e' : b = s1.heap.objs.size + 1 ∨ b = s1.heap.objs.size := by simpa using hb
    have hle : s1.heap.objs.size ≤ b := by
      rcases e' with q | q
      · rw [q]
        exact Nat.le_add_right _ _
      · rw [q]
        exact Nat.le_refl _
    exact I1.fpOk hle (I1.hok.fresh hle)
theorem walk_enumS {z : Str} : Walk (Ites z) z.cps.size (fun _ => True) (fun i H v H' => ∃ T c, v = .ref T ∧ H T = none ∧ H' = upd H T (.tup [.int (i : Nat), .str ⟨#[c]⟩]) ∧ z.cps[i]? = some c) :=
  ⟨fun _ _ hi _ => hi, fun _ _ => Nat.le_refl _, fun _ _ _ _ _ _ y => y⟩
end L2

set_option Elab.async false
set_option linter.all false
set_option maxRecDepth 100000
set_option maxHeartbeats 4000000
/-! EnumT: enumerate of a tuple, in a for or a comprehension. -/
namespace L2
open PySem PySem.Spec PyProof.Rows
abbrev itTup (t : Addr) : Obj := { cls := .type "tuple_iterator", data := .fields #[.ref t, .int 0 0] }
abbrev obEnum (i : Addr) : Obj := { cls := .type "enumerate", data := .fields #[.none, .bool false, .ref i, rawInt 0, .none, .none] }
theorem meets_enum_tup (t : Addr) (its : Array Value) (n : Nat) (dd : Option Addr) (ss : Array (Option Value)) :
    Meets (Builtin.«enumerate.__new__» ⟨[.type "enumerate", .ref t], []⟩) (fun _ R s => s.heap.get? t = some { cls := .type "tuple", dict := dd, data := .seq its n, slots := ss } ∧
      R (.ok (.ret (.ref (s.heap.push (itTup t)).objs.size))) { s with heap := (s.heap.push (itTup t)).push (obEnum s.heap.objs.size) }) :=
  .of_wp fun prog w A R s h => by
    obtain ⟨hp, g, d, tk, os⟩ := s
    obtain ⟨ht, h⟩ := h
    have sb := sub_enumerate
    have tT : Heap.IsTuple (Shared.heap ⟨hp, g, d, tk, os⟩) t its := ⟨_, ht, rfl, n, rfl⟩
    wp_walk using AutoSeq1.wpAny_loadPart' ht
    refine wpAny_stack_any fun st => wpAny_pure ?_
    split
    · rename_i c _ _ _ _ _
      cases (c == Value.type "enumerate")
      · wp_walk using AutoSeq1.wpAny_loadPart' ht, wpAny_pyIter_tuple tT
        exact ⟨_, rfl, h⟩
      · wp_walk using AutoSeq1.wpAny_loadPart' ht, wpAny_pyIter_tuple tT
        exact ⟨_, rfl, h⟩
    · wp_walk using AutoSeq1.wpAny_loadPart' ht, wpAny_pyIter_tuple tT
      exact ⟨_, rfl, h⟩
section
variable {prog : Program} {w : World} {A : Around} {E : Value → Shared → Prop} {s : Shared}
theorem call_enum_tup {t : Addr} {its : Array Value} {Q : Value → Shared → Prop} (hT : s.heap.IsTuple t its)
    (h : ∀ h', IsEnum h' (s.heap.objs.size + 1) s.heap.objs.size 0 .none → h'.IsTupleIter s.heap.objs.size t 0 → h'.objs.size = s.heap.objs.size + 2 → (∀ b o, s.heap.get? b = some o → h'.get? b = some o) → Q (.ref (s.heap.objs.size + 1)) { s with heap := h' }) :
    wpAny (model prog w) A (call (.type "enumerate") [.ref t]) Q E s := by
  obtain ⟨⟨c, dd, dt, ss⟩, ht, hc, n, hd⟩ := hT
  replace hc : c = .type "tuple" := hc
  replace hd : dt = .seq its n := hd
  subst hc hd
  refine callType_new F.called_enumerate (by decide) (F.typeCall_enumerate_1 _) (F.newCall_enumerate_1 _) (fun obj => F.args_object_init_2 obj _) F.entry_enumerate_new (meets_enum_tup t its n dd ss) ⟨ht, ?_⟩
  have hz : (s.heap.push (itTup t)).objs.size = s.heap.objs.size + 1 := Heap.size_push ..
  show _ ∧ _
  rw [hz]
  have he : IsEnum ((s.heap.push (itTup t)).push (obEnum s.heap.objs.size)) (s.heap.objs.size + 1) s.heap.objs.size 0 .none := by
    have q := Heap.get?_push_size (s.heap.push (itTup t)) (o := obEnum s.heap.objs.size) rfl
    rw [hz] at q
    exact q
  exact ⟨⟨_, he, rfl⟩, h _ he ⟨_, Heap.get?_push_of_some _ (Heap.get?_push_size _ rfl), rfl, rfl⟩ (by rw [Heap.size_push, hz]) fun b o x => Heap.get?_push_of_some _ (Heap.get?_push_of_some _ x)⟩
end
/-- the tuple at a as it stands at each turn, each item in a new pair -/
def ItT (K : PySem.W.Frag) (a : Addr) : It :=
  ⟨fun i H => ∃ (xs : List V) (x : V), SqT K H a xs ∧ xs[i]? = some x, fun i H v H' => ∃ T x, v = .ref T ∧ H T = none ∧ H' = upd H T (.tup [.int (i : Nat), x]) ∧ ∀ xs, SqT K H a xs → xs[i]? = some x, fun i H => ∃ xs : List V, SqT K H a xs ∧ xs.length ≤ i⟩
theorem turn_enumT {P : Program} {w : World} {K : PySem.W.Frag} {elts : List Expr} {kk : Nat} {tpos : Pos} (a e it : Addr) :
    Turn P w K (.Tuple elts kk tpos) (ItT K a) [e, it] e (fun i h => (∃ old, IsEnum h e it ((i : Nat) : Int) old) ∧ h.IsTupleIter it a i ∧ e ≠ it) where
  mem := by simp
  obj := fun i h st b hb => by
    obtain ⟨⟨old, he⟩, ⟨o, ho, hc, hd⟩, _⟩ := st
    have e' : b = e ∨ b = it := by simpa using hb
    rcases e' with q | q
    · rw [q]
      exact ⟨_, he, fun v y => nomatch y⟩
    · rw [q]
      refine ⟨o, ho, fun v y => ?_⟩
      rw [hd] at y
      cases y
  keep := fun i h h' st k => by
    obtain ⟨⟨old, he⟩, ⟨o, ho, r⟩, hne⟩ := st
    exact ⟨⟨old, k e (by simp) _ he⟩, ⟨o, k it (by simp) _ ho, r⟩, hne⟩
  item := by
    intro X hP hw hK hc i pins s σ H E I hf st hg
    subst hP hw hK
    obtain ⟨⟨old, he⟩, hit, hne⟩ := st
    obtain ⟨xs, x, hq, hx⟩ := hg
    obtain ⟨its, rv, tp, hz⟩ := I.tuple hq
    obtain ⟨u, hu, ru⟩ := rv.get hx
    have hel : e < s.heap.objs.size := Heap.lt_size he
    have hil : it < s.heap.objs.size := by
      obtain ⟨_, q, _⟩ := hit
      exact Heap.lt_size q
    have hh : X.A.in1.handled = none := by simp [I.ok.hd hc]
    have nai : a ≠ it := fun y => by
      obtain ⟨o1, q1, c1, _⟩ := hit
      obtain ⟨o2, q2, c2, _⟩ := tp
      rw [y, q1] at q2
      rw [← Option.some.inj q2, c1] at c2
      exact absurd c2 (by decide)
    have nae : e ≠ a := fun y => by
      obtain ⟨o2, q2, c2, _⟩ := tp
      rw [← y, show s.heap.get? e = _ from he] at q2
      rw [← Option.some.inj q2] at c2
      have c3 : Value.type "enumerate" = Value.type "tuple" := c2
      exact absurd c3 (by decide)
    have ixl : i < its.toArray.size := by
      rw [List.size_toArray]
      exact (List.getElem?_eq_some_iff.mp hu).1
    refine wpAny_pyNext_enum_itemD (Draws.tuple hh it a nai its.toArray) he ⟨hit, tp⟩ ixl hne (by simp [hne, nae]) fun y h' tk hy ho hit' hT hsz hk => ?_
    have hy : its.toArray[i]? = some y := hy
    obtain rfl : u = y := by
      rw [List.getElem?_toArray, hu] at hy
      exact Option.some.inj hy
    refine ⟨_, rfl, wpAny_letOwnedTupleGo_enum (s := { s with heap := h', toks := tk + 1 }) ho fun h'' he' sb => ?_⟩
    have hT2 : h''.get? s.heap.objs.size = some { cls := .type "tuple", data := .seq #[.int i tk, u] } := (sb.2 _ (Nat.ne_of_gt hel)).trans hT
    have new : ObjOk X.prog X.w (upd H s.heap.objs.size (.tup [.int (i : Nat), x])) h'' s.heap.objs.size (.tup [.int (i : Nat), x]) :=
      ⟨by show 2 ≤ sizeLine; decide, [.int i tk, u], .cons ⟨_, rfl⟩ (.cons ru .nil), ⟨_, hT2, rfl, _, rfl⟩⟩
    have J : Inv X pins σ (upd H s.heap.objs.size (.tup [.int (i : Nat), x])) { s with heap := h'', toks := tk + 1 } :=
      I.turnedNew (ch := [e, it]) (fun b ob hb q => (sb.2 b (fun y => hb (by simp [y]))).trans (hk b ob (fun y => hb (by simp [y])) (fun y => hb (by simp [y])) q)) hf (Nat.le_refl _) new
    refine ⟨.ref s.heap.objs.size, _, J, rfl, ⟨_, x, rfl, I.hok.fresh (Nat.le_refl _), rfl, fun ys hy => by rw [I.tuple_inj hy hq]; exact hx⟩, ⟨⟨u, ?_⟩, ?_, hne⟩, fun b hb => ?_⟩
    · have e1 : ((i + 1 : Nat) : Int) = (i : Int) + 1 := by omega
      rw [e1]
      exact he'
    · obtain ⟨o, q, r⟩ := hit'.1
      exact ⟨o, (sb.2 it (Ne.symm hne)).trans q, r⟩
    · have hb' : b < s.heap.objs.size := by
        have e' : b = e ∨ b = it := by simpa using hb
        rcases e' with y | y
        · rw [y]
          exact hel
        · rw [y]
          exact hil
      rw [upd_ne (Nat.ne_of_lt hb')]
      exact (hf b hb).1
  done := by
    intro X hP hw hK hc i pins s σ H E I hf st hg
    subst hP hw hK
    obtain ⟨⟨old, he⟩, hit, hne⟩ := st
    obtain ⟨xs, hq, hx⟩ := hg
    obtain ⟨its, rv, tp, hz⟩ := I.tuple hq
    obtain ⟨f0, f1, f2, f3, f4, f5⟩ := hf it (by simp)
    have hl := rv.length
    have hh : X.A.in1.handled = none := by simp [I.ok.hd hc]
    have D : Draws X.prog X.w X.A.in1 it [it, a] i (fun _ _ => False) (fun j h => j = i ∧ h.IsTupleIter it a i ∧ h.IsTuple a its.toArray) :=
      { live := fun j h st => let ⟨o, ho, _⟩ := st.2.1; ⟨o, ho⟩
        frame := fun j h h' st hk => ⟨st.1, st.2.1.at fun o e => hk it (by simp) o e, st.2.2.at fun o e => hk a (by simp) o e⟩
        item := fun j s Q E hj st hQ => absurd st.1 (Nat.ne_of_lt hj)
        done := fun s Q E st hE => wpAny_nextOf_tuple_end hh st.2.1 st.2.2 (by simp; omega) hE }
    exact wpAny_pyNext_enum_endD D he ⟨rfl, hit, tp⟩ fun h' eb => ⟨rfl, I.turned (t' := s.toks) (fun b o hb q => eb b o hb q) f0 f1 f3 f4 f5⟩
  self := fun A i s Q E st h => let ⟨⟨_, he⟩, _⟩ := st; wpAny_pyIter_enum he h
def iEnumT (K : PySem.W.Frag) (ta : TA) : TI := fun σ H R => ta σ H fun vs H1 => ∃ a xs, vs = [.ref a] ∧ SqT K H1 a xs ∧ R (ItT K a) H1
theorem pi_enumT {X : Cx} {e : Expr} {ta : TA} {p pos tpos : Pos} {elts : List Expr} {kk : Nat} (hg : Gl X "enumerate") (hm : X.mg "enumerate" = none) (ha : PA X [e] ta) (hs : starEach [e] X.env = [(false, eval e X.env)] := by rfl) :
    PI X (.Tuple elts kk tpos) (.Call (.Name "enumerate" p) [e] [] pos) (iEnumT X.K ta) := by
  refine ⟨fun pins s σ H R I h => ?_⟩
  refine Call_ (ld_blt I hg hm boot_enumerate (PyProof.Rows.callWith_type1 (thn (ha.run pos pins s σ H _ I h) fun us s1 ⟨vs, H1, I1, r1, q1⟩ => ?_) hs rfl))
  obtain ⟨a, xs, ex, hq, q⟩ := q1
  subst ex
  cases r1 with
  | cons r rr =>
    cases rr
    cases r
    obtain ⟨its, rv, tp, hz⟩ := I1.tuple hq
    refine call_enum_tup tp fun h' he hit hsz hk => wpAny_pyIter_enum he ?_
    have I2 : Inv X pins σ H1 { s1 with heap := h' } := I1.kept (t' := s1.toks) hk
    refine ⟨s1.heap.objs.size + 1, [s1.heap.objs.size + 1, s1.heap.objs.size], _, _, H1, rfl, I2, turn_enumT a (s1.heap.objs.size + 1) s1.heap.objs.size, ⟨⟨.none, he⟩, hit, Nat.succ_ne_self _⟩, fun b hb => ?_, q⟩
    have e' : b = s1.heap.objs.size + 1 ∨ b = s1.heap.objs.size := by simpa using hb
    have hle : s1.heap.objs.size ≤ b := by
      rcases e' with q | q
      · rw [q]
        exact Nat.le_add_right _ _
      · rw [q]
        exact Nat.le_refl _
    exact I1.fpOk hle (I1.hok.fresh hle)
theorem walk_enumT {K : PySem.W.Frag} {a : Addr} {xs : List V} : Walk (ItT K a) xs.length (fun H => SqT K H a xs) (YPair (fun i => some (.int (i : Nat))) (fun i => xs[i]?)) := by
  refine ⟨fun i _ hi q => ⟨xs, xs[i], q, by simp [hi]⟩, fun _ q => ⟨xs, q, Nat.le_refl _⟩, fun i H v H' _ q y => ?_⟩
  obtain ⟨T, x, h1, h2, h3, h4⟩ := y
  exact ⟨T, .int (i : Nat), x, h1, h2, h3, rfl, h4 xs q⟩
end L2

set_option Elab.async false
set_option linter.all false
set_option maxRecDepth 100000
set_option maxHeartbeats 4000000
namespace T23
open PySem L2 EK
/-- a thing whose kind is known -/
inductive Pl (H : Hp) : V → Prop
  | non : Pl H .non
  | int (i : Int) : Pl H (.int i)
  | str (z : Str) : Pl H (.str z)
  | bl (b : Bool) : Pl H (.bl b)
  | tup {a : Addr} {xs : List V} (e : H a = some (.tup xs)) : Pl H (.ref a)
  | lst {a : Addr} {xs : List V} (e : H a = some (.lst xs)) : Pl H (.ref a)
  | dct {a : Addr} {kvs : List (Key × V)} (e : H a = some (.dK kvs)) : Pl H (.ref a)
theorem Pl.keep {H H' : Hp} {x : V} (h : Pl H x) (s : Same H H') : Pl H' x := by
  cases h with
  | non => exact .non
  | int i => exact .int i
  | str z => exact .str z
  | bl b => exact .bl b
  | tup e => exact .tup (s _ _ e)
  | lst e => exact .lst (s _ _ e)
  | dct e => exact .dct (s _ _ e)
def isIntV : V → Bool
  | .int _ => true
  | .bl _ => true
  | _ => false
def isBlV : V → Bool
  | .bl _ => true
  | _ => false
def isTupV (H : Hp) (x : V) : Prop := ∃ a xs, x = .ref a ∧ H a = some (.tup xs)
theorem Pl.isInt {K : PySem.W.Frag} {H : Hp} {x : V} (h : Pl H x) : ∃ t, TyX K H x t ∧ PySem.W.kitOne K t (.type "int") = some (isIntV x) := by
  cases h with
  | non => exact ⟨_, .base .non, kit_ty (r := false) (by decide +kernel)⟩
  | int i => exact ⟨_, .base (.int i), kit_ty (r := true) (by decide +kernel)⟩
  | str z => exact ⟨_, .base (.str z), kit_ty (r := false) (by decide +kernel)⟩
  | bl b => exact ⟨_, .base (.bl b), kit_ty (r := true) (by decide +kernel)⟩
  | tup e => exact ⟨_, .base (.tup e), kit_ty (r := false) (by decide +kernel)⟩
  | lst e => exact ⟨_, .base (.lst e), kit_ty (r := false) (by decide +kernel)⟩
  | dct e => exact ⟨_, .base (.dK e), kit_ty (r := false) (by decide +kernel)⟩
theorem Pl.isBl {K : PySem.W.Frag} {H : Hp} {x : V} (h : Pl H x) : ∃ t, TyX K H x t ∧ PySem.W.kitOne K t (.type "bool") = some (isBlV x) := by
  cases h with
  | non => exact ⟨_, .base .non, kit_ty (r := false) (by decide +kernel)⟩
  | int i => exact ⟨_, .base (.int i), kit_ty (r := false) (by decide +kernel)⟩
  | str z => exact ⟨_, .base (.str z), kit_ty (r := false) (by decide +kernel)⟩
  | bl b => exact ⟨_, .base (.bl b), kit_ty (r := true) (by decide +kernel)⟩
  | tup e => exact ⟨_, .base (.tup e), kit_ty (r := false) (by decide +kernel)⟩
  | lst e => exact ⟨_, .base (.lst e), kit_ty (r := false) (by decide +kernel)⟩
  | dct e => exact ⟨_, .base (.dK e), kit_ty (r := false) (by decide +kernel)⟩
theorem Pl.isTup {K : PySem.W.Frag} {H : Hp} {x : V} (h : Pl H x) : (∃ a xs, x = .ref a ∧ H a = some (.tup xs) ∧ ∃ t, TyX K H x t ∧ PySem.W.kitOne K t (.type "tuple") = some true) ∨ ((∀ a xs, x = .ref a → H a ≠ some (.tup xs)) ∧ ∃ t, TyX K H x t ∧ PySem.W.kitOne K t (.type "tuple") = some false) := by
  cases h with
  | non => exact .inr ⟨fun a xs z => (by cases z), _, .base .non, kit_ty (r := false) (by decide +kernel)⟩
  | int i => exact .inr ⟨fun a xs z => (by cases z), _, .base (.int i), kit_ty (r := false) (by decide +kernel)⟩
  | str z => exact .inr ⟨fun a xs z => (by cases z), _, .base (.str z), kit_ty (r := false) (by decide +kernel)⟩
  | bl b => exact .inr ⟨fun a xs z => (by cases z), _, .base (.bl b), kit_ty (r := false) (by decide +kernel)⟩
  | tup e => exact .inl ⟨_, _, rfl, e, _, .base (.tup e), kit_ty (r := true) (by decide +kernel)⟩
  | lst e => exact .inr ⟨fun a xs z q => (by cases z; rw [e] at q; cases q), _, .base (.lst e), kit_ty (r := false) (by decide +kernel)⟩
  | dct e => exact .inr ⟨fun a xs z q => (by cases z; rw [e] at q; cases q), _, .base (.dK e), kit_ty (r := false) (by decide +kernel)⟩
def numB (x : V) (m : Int) : Bool := match x with
  | .int i => decide (m ≤ i)
  | _ => false
def numBB (x : V) (lo hi : Int) : Bool := match x with
  | .int i => decide (lo ≤ i) && decide (i ≤ hi)
  | _ => false
theorem numBB_int {x : V} {lo hi : Int} (h : numBB x lo hi = true) : ∃ i, x = .int i ∧ lo ≤ i ∧ i ≤ hi := by
  cases x with
  | int i =>
    have h : (decide (lo ≤ i) && decide (i ≤ hi)) = true := h
    rw [Bool.and_eq_true] at h
    exact ⟨i, rfl, of_decide_eq_true h.1, of_decide_eq_true h.2⟩
  | _ => exact absurd h (by simp [numBB])
theorem numB_int {x : V} {m : Int} (h : numB x m = true) : ∃ i, x = .int i ∧ m ≤ i := by
  cases x with
  | int i => exact ⟨i, rfl, of_decide_eq_true h⟩
  | _ => exact absurd h (by simp [numB])
/-- 0 to len, rising -/
def incB : List Int → Bool
  | [] => true
  | [_] => true
  | a :: b :: r => decide (a < b) && incB (b :: r)
def valI : V → Int
  | .int i => i
  | _ => 0
structure TxtC (K : PySem.W.Frag) (mg : Str → Option Value) : Prop where
  isinstance : mg "isinstance" = none
  str : mg "str" = none
  int : mg "int" = none
  bool : mg "bool" = none
  tuple : mg "tuple" = none
  all : mg "all" = none
  len : mg "len" = none
  list : mg "list" = none
  sorted : mg "sorted" = none
  range : mg "range" = none
  enumerate : mg "enumerate" = none
  dict : mg "dict" = none
  letters : ∃ u, mg "LETTERS" = some u ∧ RelV (.str letS) u
  comb : mg "comb" = some (.builtin "math.comb")
def spNB : Sp := fun vs H Q _ => ∃ x m n, vs = [x, .int m, .int n] ∧ Pl H x ∧ Q (.bl (numBB x m n)) H
def spNumber : Sp := fun vs H Q _ => ∃ x m, vs = [x, .int m] ∧ Pl H x ∧ Q (.bl (numB x m)) H
section
variable {P : Program} {w : World} {K : PySem.W.Frag} {mg : Str → Option Value} {base : Heap}
theorem scNB : FnScope ["value", "least", "greatest"] ["value", "least", "greatest"] (defScope sIsNB) := ⟨rfl, rfl, rfl, by decide +kernel, rfl, by decide +kernel, by decide +kernel⟩
theorem scNum : FnScope ["value", "least"] ["value", "least"] (defScope sIsNum) := ⟨rfl, rfl, rfl, by decide +kernel, rfl, by decide +kernel, by decide +kernel⟩
theorem ok_isNumber {f : Addr} {fd : FuncData} (F : Fun K "is_number" "is_number" sIsNum f fd) (T : TxtC K mg) : FnOk P w K mg base CX0 1 f fd ["value", "least"] spNumber := by
  refine F.ok scNum (fun vs H Q E h => ?_) (fun cdv A outer s H vs Q E hr h => ?_)
  · obtain ⟨x, m, rfl, _⟩ := h
    rfl
  · obtain ⟨x, m, rfl, hp, k⟩ := h
    have nd := scNum.nd
    refine ⟨_, (pss_one (ps_ret (pe_and (pe_callB call_isi (by rfl) T.isinstance (by decide +kernel) (pa_cons (pv 0) (pa_cons (pe_bltn (v := .ty "int") rfl T.int (by decide +kernel) rfl) pa_nil))) (pe_and (pe_not (pe_callB call_isi (by rfl) T.isinstance (by decide +kernel) (pa_cons (pv 0) (pa_cons (pe_bltn (v := .ty "bool") rfl T.bool (by decide +kernel) rfl) pa_nil)))) (pe_one (pe_cmpR op_ge (pv 0) (pv 1) (nomark _))))))), ?_⟩
    obtain ⟨t, ht, hk⟩ := hp.isInt (K := K)
    obtain ⟨t2, ht2, hk2⟩ := hp.isBl (K := K)
    refine ⟨_, rfl, _, _, _, _, _, rfl, .ty _, ht, hk, _, rfl, ?_⟩
    cases x with
    | int i =>
      exact ⟨_, rfl, _, _, _, _, _, rfl, .ty _, ht2, hk2, _, rfl, _, rfl, _, rfl, _, rfl, _, _, rfl, rfl, k⟩
    | bl b => exact ⟨_, rfl, _, _, _, _, _, rfl, .ty _, ht2, hk2, _, rfl, _, rfl, k⟩
    | _ => exact k
theorem ok_isNB {f fN : Addr} {fd fdN : FuncData} (F : Fun K "is_number_between" "is_number_between" sIsNB f fd)
    (GN : FnOk P w K mg base CX0 1 fN fdN ["value", "least"] spNumber) (gN : mg "is_number" = some (.ref fN)) (kN : PySem.W.keepIn K (.ref fN) = true) (bN : Binds K fdN ["value", "least"] []) :
    FnOk P w K mg base CX0 2 f fd ["value", "least", "greatest"] spNB := by
  refine F.ok scNB (fun vs H Q E h => ?_) (fun cdv A outer s H vs Q E hr h => ?_)
  · obtain ⟨x, m, n, rfl, _⟩ := h
    rfl
  · obtain ⟨x, m, n, rfl, hp, k⟩ := h
    have hr1 : Room 1 _ := hr
    refine ⟨_, (pss_one (ps_ret (pe_and (pe_call GN hr1 rfl gN kN bN .nil pass0 (pa_cons (pv 0) (pa_cons (pv 1) pa_nil))) (pe_one (pe_cmpR op_le (pv 0) (pv 2) (nomark _)))))), ?_⟩
    refine ⟨_, rfl, _, rfl, x, m, rfl, hp, _, rfl, ?_⟩
    cases x with
    | int i =>
      by_cases h : m ≤ i
      · have e : numB (.int i) m = true := decide_eq_true h
        have e2 : numBB (.int i) m n = decide (i ≤ n) := by
          show (decide (m ≤ i) && decide (i ≤ n)) = _
          rw [decide_eq_true h, Bool.true_and]
        rw [e2] at k
        rw [e]
        exact ⟨_, rfl, _, rfl, _, _, rfl, rfl, k⟩
      · have e : numB (.int i) m = false := decide_eq_false h
        have e2 : numBB (.int i) m n = false := by
          show (decide (m ≤ i) && decide (i ≤ n)) = _
          rw [decide_eq_false h, Bool.false_and]
        rw [e2] at k
        rw [e]
        exact k
    | _ => exact k
theorem all_ints {xs : List V} {lo hi : Int} (h : xs.all (numBB · lo hi) = true) : xs = (xs.map valI).map V.int := by
  induction xs with
  | nil => rfl
  | cons x xs ih =>
    rw [List.all_cons, Bool.and_eq_true] at h
    obtain ⟨i, rfl, _, _⟩ := numBB_int h.1
    rw [List.map_cons, List.map_cons, ← ih h.2]
    rfl
theorem incB_iff : ∀ ns : List Int, incB ns = true ↔ ns.Pairwise (· < ·)
  | [] => by simp [incB]
  | [a] => by simp [incB]
  | a :: b :: r => by
    have ih := incB_iff (b :: r)
    rw [incB, Bool.and_eq_true, decide_eq_true_eq, ih]
    constructor
    · rintro ⟨h1, h2⟩
      refine List.pairwise_cons.mpr ⟨fun c hc => ?_, h2⟩
      rcases List.mem_cons.mp hc with rfl | hc
      · exact h1
      · exact Int.lt_trans h1 ((List.pairwise_cons.mp h2).1 c hc)
    · intro h
      obtain ⟨h1, h2⟩ := List.pairwise_cons.mp h
      exact ⟨h1 b List.mem_cons_self, h2⟩
theorem sorted_same {ns ms : List Int} (h1 : ns.Pairwise (· < ·)) (h2 : ms.Pairwise (· < ·)) (h : ∀ k, k ∈ ns ↔ k ∈ ms) : ns = ms := by
  have nd : ∀ {l : List Int}, l.Pairwise (· < ·) → l.Nodup := fun h => h.imp fun h e => by rw [e] at h; exact Int.lt_irrefl _ h
  have p : ns.Perm ms := (List.perm_ext_iff_of_nodup (nd h1) (nd h2)).mpr h
  refine sorted_uniq (fun a b => decide (a ≤ b)) (fun x _ y _ a b => Int.le_antisymm (of_decide_eq_true a) (of_decide_eq_true b)) p (h1.imp fun h => decide_eq_true (Int.le_of_lt h)) (h2.imp fun h => decide_eq_true (Int.le_of_lt h))
end
end T23

set_option Elab.async false
set_option linter.all false
set_option maxRecDepth 100000
set_option maxHeartbeats 4000000
namespace T23
open PySem L2 EK
def leI (a b : Int) : Bool := decide (a ≤ b)
def rangeI (n : Nat) : List Int := (List.range n).map fun i => (0 : Int) + (i : Nat)
def permB (ns : List Int) : Bool := decide (isort leI ns = rangeI ns.length)
def ordB (xs : List V) : Bool := xs.all (numB · 0) && permB (xs.map valI)
/-- a thing of which it is known whether it is an order -/
inductive IsO (H : Hp) : V → Bool → Prop
  | no {x : V} (p : Pl H x) (n : ∀ a xs, x = .ref a → H a ≠ some (.tup xs)) : IsO H x false
  | tup {a : Addr} {xs : List V} (e : H a = some (.tup xs)) (p : ∀ y ∈ xs, Pl H y) (l : xs.length ≤ 1000) : IsO H (.ref a) (ordB xs)
theorem leI_sorted {ms : List Int} (h : ms.Pairwise (· ≤ ·)) : ms.Pairwise (fun x y => leI x y = true) := h.imp fun h => decide_eq_true h
theorem sort_is {ns ms : List Int} (p : ms.Perm ns) (h : ms.Pairwise (· ≤ ·)) : ms = isort leI ns := by
  refine sorted_uniq leI (fun x _ y _ a b => Int.le_antisymm (of_decide_eq_true a) (of_decide_eq_true b)) (p.trans (isort_perm leI ns).symm) (leI_sorted h) ?_
  exact isort_sorted leI (fun x y z a b => decide_eq_true (Int.le_trans (of_decide_eq_true a) (of_decide_eq_true b))) (fun x y => by
    unfold leI
    rw [Bool.or_eq_true, decide_eq_true_eq, decide_eq_true_eq]
    omega) ns
theorem rgV_eq (n : Nat) : rgV 0 (n : Int) = (rangeI n).map V.int := by
  unfold rgV rangeI
  rw [List.map_map, show (((n : Int)) - 0).toNat = n by omega]
  rfl
theorem rangeI_len (n : Nat) : (rangeI n).length = n := by
  unfold rangeI
  rw [List.length_map, List.length_range]
/-- the numbers of an order are places -/
theorem perm_rng {ns : List Int} (h : permB ns = true) : ∀ n ∈ ns, 0 ≤ n ∧ n < ns.length := by
  intro n hn
  have h := of_decide_eq_true h
  have hm : n ∈ isort leI ns := (isort_perm leI ns).mem_iff.mpr hn
  rw [h] at hm
  obtain ⟨i, hi, rfl⟩ := List.mem_map.mp hm
  have := List.mem_range.mp hi
  omega
theorem IsO.good {H : Hp} {x : V} {b : Bool} (h : IsO H x b) (hb : b = true) : ∃ a ns, x = .ref a ∧ H a = some (.tup (ns.map V.int)) ∧ permB ns = true ∧ ns.length ≤ 1000 := by
  cases h with
  | no p n => cases hb
  | @tup a xs e p l =>
    unfold ordB at hb
    rw [Bool.and_eq_true] at hb
    have ei : xs = (xs.map valI).map V.int := by
      have : ∀ zs : List V, zs.all (numB · 0) = true → zs = (zs.map valI).map V.int := fun zs => by
        induction zs with
        | nil => intro _; rfl
        | cons z zs ih =>
          intro hz
          rw [List.all_cons, Bool.and_eq_true] at hz
          obtain ⟨i, rfl, _⟩ := numB_int hz.1
          rw [List.map_cons, List.map_cons, ← ih hz.2]
          rfl
      exact this xs hb.1
    exact ⟨a, xs.map valI, rfl, by rw [← ei]; exact e, hb.2, by rw [List.length_map]; exact l⟩
theorem ordB_ints {ns : List Int} (h : permB ns = true) : ordB (ns.map V.int) = true := by
  unfold ordB
  have e1 : (ns.map V.int).map valI = ns := by
    rw [List.map_map]
    conv => rhs; rw [← List.map_id ns]
    rfl
  rw [e1, h, Bool.and_true, List.all_map, List.all_eq_true]
  intro n hn
  exact decide_eq_true (perm_rng h n hn).1
theorem isO_of {H : Hp} {a : Addr} {ns : List Int} (ha : H a = some (.tup (ns.map V.int))) (h : permB ns = true) (hl : ns.length ≤ 1000) : IsO H (.ref a) true := by
  rw [← ordB_ints h]
  refine .tup ha (fun y hy => ?_) (by rw [List.length_map]; exact hl)
  obtain ⟨i, _, rfl⟩ := List.mem_map.mp hy
  exact .int i
theorem IsO.keep {H H' : Hp} {x : V} {b : Bool} (h : IsO H x b) (s : Same H H') : IsO H' x b := by
  cases h with
  | @no x p n =>
    refine .no (p.keep s) fun a xs e z => ?_
    subst e
    cases p with
    | tup e => exact n _ _ rfl e
    | lst e => rw [s _ _ e] at z; cases z
    | dct e => rw [s _ _ e] at z; cases z
  | tup e p l => exact .tup (s _ _ e) (fun y hy => (p y hy).keep s) l
def spIsOrd : Sp := fun vs H Q _ => ∃ x b, vs = [x] ∧ IsO H x b ∧ ∀ H', Same H H' → Q (.bl b) H'
def spCkNB (CN : Addr) : Sp := fun vs H Q E => ∃ x m n, vs = [x, .int m, .int n] ∧ Pl H x ∧ (numBB x m n = true → Q .non H) ∧ (numBB x m n = false → ∀ d, H d = none → E (.ref CN) (some d) (upd H d (.xd [("number", x)])))
def spCkOrd (CO : Addr) : Sp := fun vs H Q E => ∃ x b, vs = [x] ∧ IsO H x b ∧ ∀ H', Same H H' → (b = true → Q .non H') ∧ (b = false → ∀ d, H' d = none → E (.ref CO) (some d) (upd H' d (.xd [("order", x)])))
def ranksF (ns : List Int) : Nat → List Int
  | 0 => List.replicate ns.length 0
  | i + 1 => (ranksF ns i).set (ns.getD i 0).toNat (i : Nat)
def ranksM (ns : List Int) : List Int := ranksF ns ns.length ++ [-1]
theorem ranksF_len (ns : List Int) : ∀ i, (ranksF ns i).length = ns.length
  | 0 => by rw [ranksF, List.length_replicate]
  | i + 1 => by rw [ranksF, List.length_set, ranksF_len ns i]
def spRanks : Sp := fun vs H Q _ => ∃ (a : Addr) (ns : List Int), vs = [.ref a] ∧ H a = some (.tup (ns.map V.int)) ∧ permB ns = true ∧ ns.length ≤ 1000 ∧ ∀ p H', Same H H' → H' p = some (.lst ((ranksM ns).map V.int)) → Q (.ref p) H'
def dropAt (ns : List Int) (i : Nat) : Bool := decide ((ranksM ns).getD (ns.getD (i + 1) 0 + 1).toNat 0 < (ranksM ns).getD (ns.getD i 0 + 1).toNat 0)
def dropsM (ns : List Int) : List Int := ((List.range (ns.length - 1)).filter (dropAt ns)).map fun i => (0 : Int) + (i : Nat)
def spDrops (CO : Addr) : Sp := fun vs H Q E => ∃ x b, vs = [x] ∧ IsO H x b ∧ (b = false → ∀ H1 d, Same H H1 → H1 d = none → E (.ref CO) (some d) (upd H1 d (.xd [("order", x)]))) ∧
  (b = true → ∀ a ns, x = .ref a → H a = some (.tup (ns.map V.int)) → ∀ p H', H p = none → Same H H' → H' p = some (.lst ((dropsM ns).map V.int)) → Q (.ref p) H')
theorem atI_int {xs : List V} {k : Int} {v : V} (h0 : 0 ≤ k) (h : xs[k.toNat]? = some v) : atI xs k = some v := by
  have e : k = ((k.toNat : Nat) : Int) := by omega
  rw [e]
  exact atI_nat h
theorem ixN_int {n : Nat} {k : Int} (h0 : 0 ≤ k) (h1 : k < n) : ixN n k = some k.toNat := by
  unfold ixN
  rw [if_pos h0, if_pos (by omega)]
section
variable {P : Program} {w : World} {K : PySem.W.Frag} {mg : Str → Option Value} {base : Heap}
theorem scIsOrd : FnScope ["value", "place"] ["value"] (defScope sIsOrd) := ⟨rfl, rfl, rfl, by decide +kernel, rfl, by decide +kernel, by decide +kernel⟩
theorem scCkNB : FnScope ["number", "least", "greatest"] ["number", "least", "greatest"] (defScope sCkNB) := ⟨rfl, rfl, rfl, by decide +kernel, rfl, by decide +kernel, by decide +kernel⟩
theorem scCkOrd : FnScope ["order"] ["order"] (defScope sCkOrd) := ⟨rfl, rfl, rfl, by decide +kernel, rfl, by decide +kernel, by decide +kernel⟩
theorem scRanks : FnScope ["order", "ranks", "rank", "place"] ["order"] (defScope sRanks) := ⟨rfl, rfl, rfl, by decide +kernel, rfl, by decide +kernel, by decide +kernel⟩
theorem scDrops : FnScope ["order", "ranks", "at"] ["order"] (defScope sDrops) := ⟨rfl, rfl, rfl, by decide +kernel, rfl, by decide +kernel, by decide +kernel⟩
theorem ok_isOrd {f fN : Addr} {fd fdN : FuncData} (F : Fun K "is_order" "is_order" sIsOrd f fd) (T : TxtC K mg)
    (GN : FnOk P w K mg base CX0 1 fN fdN ["value", "least"] spNumber) (gN : mg "is_number" = some (.ref fN)) (kN : PySem.W.keepIn K (.ref fN) = true) (bN : Binds K fdN ["value", "least"] []) :
    FnOk P w K mg base CX0 2 f fd ["value"] spIsOrd := by
  refine F.ok scIsOrd (fun vs H Q E h => ?_) (fun cdv A outer s H vs Q E hr h => ?_)
  · obtain ⟨x, b, rfl, _⟩ := h
    rfl
  · obtain ⟨x, b, rfl, hO, k⟩ := h
    have nd := scIsOrd.nd
    have hu : (A.deeper (PyProof.Rows.envOfC "is_order" (defScope sIsOrd) s.heap.objs.size f cdv)).units + 64 < cLine := hr.units
    have hr1 : Room 1 _ := hr
    have hz : sizeLine = 2 ^ 24 := sizeLine_eq
    refine ⟨_, (pss_cons (ps_if (PW.pt (pw_or (pt_not (pt_val (pe_callB call_isi (by rfl) T.isinstance (by decide +kernel) (pa_cons (pv 0) (pa_cons (pe_bltn (v := .ty "tuple") rfl T.tuple (by decide +kernel) rfl) pa_nil))))) (pw_or1 (pt_not (pt_val (pe_callB (cr_all rfl) (by rfl) T.all (by decide +kernel) (pa_cons (pe_lc (own := [("place", 1)]) (g := gName 1) (tt := tYes) rfl nd (pi_tup (pv 0)) (blkOk_by (N := ["value", "place"]) (sc := defScope sIsOrd) (by decide +kernel)) (fun _ _ _ _ _ => (pg_name (i := 1) nd rfl (Or.inl rfl))) (fun _ _ _ _ _ => pts_nil) (fun _ _ _ _ _ => (pe_call GN hr1 rfl gN kN bN .nil pass0 (pa_cons (pv 1) (pa_cons pe_int pa_nil))))) pa_nil))))))) (pss_one (ps_ret pe_bl)) pss_nil)
      (pss_one (ps_ret (pe_cmpR (op_eqD hu) (pe_callB cr_sortedTI (by rfl) T.sorted (by decide +kernel) (pa_cons (pv 0) pa_nil)) (pe_listRg rfl (by rfl) T.list (prg_1 (by rfl) T.range (pe_callB call_len_seq (by rfl) T.len (by decide +kernel) (pa_cons (pv 0) pa_nil)))) (nomark _))))), ?_⟩
    cases hO with
    | no p n =>
      rcases p.isTup (K := K) with ⟨a, xs, rfl, e, _⟩ | ⟨_, t, ht, hk⟩
      · exact absurd e (n _ _ rfl)
      · exact ⟨_, rfl, _, _, _, _, _, rfl, .ty _, ht, hk, _, rfl, k H (.refl _)⟩
    | @tup a xs e p l =>
      refine ⟨_, rfl, _, _, _, _, true, rfl, .ty _, .base (.tup e), kit_ty (by decide +kernel), _, rfl, ?_⟩
      refine ⟨_, rfl, a, rfl, ⟨xs, .of e⟩, fun D nD => lcM_tup (K := K) (R := fun H y z => y = z ∧ Pl H y) (R' := fun H y b => y = V.bl b) (zs := xs) (fun _ => true) (fun y => numB y 0) nD (.of e) ?_ ?_ (fun _ _ _ _ _ r => r) (by omega) ?_ ?_⟩
      · have := All2.map (R := fun y z => y = z ∧ Pl H y) (f := id) (g := id) (cs := xs) fun c hc => ⟨rfl, p c hc⟩
        simpa using this
      · rintro H H' y z s ⟨rfl, q⟩
        exact ⟨rfl, q.keep s⟩
      · rintro i y z H2 C C0 hz s ⟨rfl, q⟩ c1 c0
        exact ⟨rfl, ⟨_, rfl, y, 0, rfl, q, c1 rfl _ _ (fun _ _ e => e) rfl⟩⟩
      · intro ys H2 s2 hD ha
        rw [List.filter_eq_self.mpr fun _ _ => rfl] at ha
        have ey := All2.eq_map (f := V.bl) ha
        refine ⟨D, xs.map (fun y => numB y 0), rfl, .of (by rw [hD, ey]), _, rfl, ?_⟩
        have ea : (xs.map fun y => numB y 0).all id = xs.all fun y => numB y 0 := by rw [List.all_map]; rfl
        rw [ea]
        by_cases hall : (xs.all fun y => numB y 0) = true
        · rw [hall]
          have ei : xs = (xs.map valI).map V.int := by
            have : ∀ zs : List V, zs.all (numB · 0) = true → zs = (zs.map valI).map V.int := fun zs => by
              induction zs with
              | nil => intro _; rfl
              | cons z zs ih =>
                intro hz
                rw [List.all_cons, Bool.and_eq_true] at hz
                obtain ⟨i, rfl, _⟩ := numB_int hz.1
                rw [List.map_cons, List.map_cons, ← ih hz.2]
                rfl
            exact this xs hall
          have e2 := s2 _ _ e
          rw [ei] at e2
          refine ⟨_, rfl, a, _, rfl, .of e2, fun ms q1 hp hs nq => ?_⟩
          obtain ⟨H3, e3, S3, A3⟩ := alloc (o := .lst (ms.map V.int)) nq
          rw [e3]
          have hlx : ((xs.map valI).map V.int).length = xs.length := by rw [List.length_map, List.length_map]
          refine ⟨_, rfl, a, _, rfl, .inr (.of (S3 _ _ e2)), _, rfl, ?_⟩
          rw [hlx]
          refine ⟨.of_le (by omega) (by omega) (by omega) (by omega), fun q2 nq2 => ?_⟩
          rw [rgV_eq]
          obtain ⟨H4, e4, S4, A4⟩ := alloc (o := .lst ((rangeI xs.length).map V.int)) nq2
          rw [e4]
          refine ⟨lI ms, lI (rangeI xs.length), dp_lI (.of (S4 _ _ A3)), dp_lI (.of A4), shaped_lI _, shaped_lI _, ?_⟩
          rw [eqv_lI]
          have eb : ordB xs = decide (ms = rangeI xs.length) := by
            unfold ordB
            rw [hall, Bool.true_and]
            unfold permB
            rw [sort_is hp hs, List.length_map]
          rw [← eb]
          exact k _ fun b o e => S4 _ _ (S3 _ _ (s2 _ _ e))
        · have hall2 : (xs.all fun y => numB y 0) = false := by simpa using hall
          rw [hall2]
          have eb : ordB xs = false := by
            unfold ordB
            rw [hall2, Bool.false_and]
          rw [eb] at k
          exact k _ s2
theorem ok_ckNB {f fB CN iN : Addr} {fd fdB : FuncData} (F : Fun K "check_number_between" "check_number_between" sCkNB f fd) (TN : ErrTxt P K mg "NoNumber" "number" CN iN)
    (GB : FnOk P w K mg base CX0 2 fB fdB ["value", "least", "greatest"] spNB) (gB : mg "is_number_between" = some (.ref fB)) (kB : PySem.W.keepIn K (.ref fB) = true) (bB : Binds K fdB ["value", "least", "greatest"] []) :
    FnOk P w K mg base (L2.CX P w) 3 f fd ["number", "least", "greatest"] (spCkNB CN) := by
  refine F.okX scCkNB (fun vs H Q E h => ?_) (fun cdv A outer s H vs Q E hr h => ?_)
  · obtain ⟨x, m, n, rfl, _⟩ := h
    rfl
  · obtain ⟨x, m, n, rfl, hp, k1, k2⟩ := h
    have nd := scCkNB.nd
    have hr2 : Room 2 _ := hr
    refine ⟨_, pss_one (ps_if (pt_not (pt_val (pe_call GB hr2 rfl gB kB bB .nil pass0 (pa_cons (pv 0) (pa_cons (pv 1) (pa_cons (pv 2) pa_nil)))))) (pss_one (ps_raiseErr rfl TN hr (takes_of rfl rfl rfl rfl) (pa_cons (pv 0) pa_nil) rfl)) pss_nil), ?_⟩
    refine ⟨_, rfl, _, rfl, _, rfl, x, m, n, rfl, hp, _, rfl, ?_⟩
    by_cases hb : numBB x m n = true
    · rw [hb]
      exact k1 hb
    · rw [Bool.not_eq_true] at hb
      rw [hb]
      exact ⟨_, rfl, x, rfl, fun d hd => k2 hb d hd⟩
theorem ok_ckOrd {f fO CO iO : Addr} {fd fdO : FuncData} (F : Fun K "check_order" "check_order" sCkOrd f fd) (TO : ErrTxt P K mg "NoOrder" "order" CO iO)
    (GO : FnOk P w K mg base CX0 2 fO fdO ["value"] spIsOrd) (gO : mg "is_order" = some (.ref fO)) (kO : PySem.W.keepIn K (.ref fO) = true) (bO : Binds K fdO ["value"] []) :
    FnOk P w K mg base (L2.CX P w) 3 f fd ["order"] (spCkOrd CO) := by
  refine F.okX scCkOrd (fun vs H Q E h => ?_) (fun cdv A outer s H vs Q E hr h => ?_)
  · obtain ⟨x, b, rfl, _⟩ := h
    rfl
  · obtain ⟨x, b, rfl, hc, k⟩ := h
    have hr2 : Room 2 _ := hr
    refine ⟨_, pss_one (ps_if (pt_not (pt_val (pe_call GO hr2 rfl gO kO bO .nil pass0 (pa_cons (pv 0) pa_nil)))) (pss_one (ps_raiseErr rfl TO hr (takes_of rfl rfl rfl rfl) (pa_cons (pv 0) pa_nil) rfl)) pss_nil), ?_⟩
    refine ⟨_, rfl, x, b, rfl, hc, fun H1 s1 => ⟨_, rfl, ?_⟩⟩
    obtain ⟨k1, k2⟩ := k H1 s1
    by_cases hb : b = true
    · rw [hb]
      exact k1 hb
    · rw [Bool.not_eq_true] at hb
      rw [hb]
      exact ⟨_, rfl, x, rfl, fun d hd => k2 hb d hd⟩
theorem ok_ranks {f : Addr} {fd : FuncData} (F : Fun K "_ranks" "_ranks" sRanks f fd) (T : TxtC K mg) : FnOk P w K mg base CX0 1 f fd ["order"] spRanks := by
  refine F.ok scRanks (fun vs H Q E h => ?_) (fun cdv A outer s H vs Q E hr h => ?_)
  · obtain ⟨a, ns, rfl, _⟩ := h
    rfl
  · obtain ⟨a, ns, rfl, ha, hp, hl, k⟩ := h
    have nd := scRanks.nd
    have hz : sizeLine = 2 ^ 24 := sizeLine_eq
    have hrng := perm_rng hp
    refine ⟨_, (pss_cons (ps_set (i := 1) nd rfl (Or.inl rfl) (pe_op op_rep (pe_lst (pa_cons pe_int pa_nil)) (pe_callB call_len_seq (by rfl) T.len (by decide +kernel) (pa_cons (pv 0) pa_nil))))
      (pss_cons (ps_for PassesOwn.never rfl (pi_enumT (by rfl) T.enumerate (pa_cons (pv 0) pa_nil)) (pg_tup rfl (pgs_cons (pg_name (i := 2) nd rfl (Or.inl rfl)) (pgs_cons (pg_name (i := 3) nd rfl (Or.inl rfl)) pgs_nil))) (pss_one (ps_asg (pv 2) (pg_sub (pv 1) (pv 3) set_list))))
      (pss_one (ps_ret (pe_op op_cat (pv 1) (pe_lst (pa_cons (pe_un un_neg pe_int) pa_nil))))))), ?_⟩
    refine ⟨(by show 1 ≤ sizeLine; decide), fun p0 z0 => ?_⟩
    obtain ⟨H1, e1, S1, A1⟩ := alloc (o := .lst [.int 0]) z0
    rw [e1]
    refine ⟨_, rfl, a, _, rfl, .inr (.of (S1 _ _ ha)), p0, _, _, rfl, rfl, A1, ?_⟩
    rw [List.length_map]
    refine ⟨by omega, by omega, by show 1 * _ ≤ _; omega, fun p z1 => ?_⟩
    have er : (List.replicate ((ns.length : Int)).toNat [V.int 0]).flatten = (ranksF ns 0).map V.int := by
      rw [List.flatten_replicate_singleton, ranksF, List.map_replicate, show ((ns.length : Int)).toNat = ns.length by omega]
    rw [er]
    obtain ⟨H2, e2, S2, A2⟩ := alloc (o := .lst ((ranksF ns 0).map V.int)) z1
    rw [e2]
    have np : H p = none := by
      cases hh : H p with
      | none => rfl
      | some o => rw [S1 _ _ hh] at z1; cases z1
    refine ⟨_, rfl, a, _, rfl, .of (S2 _ _ (S1 _ _ ha)), for_it walk_enumT (fun i σ H' => ∃ v2 v3 : Option V, σ = [some (.ref a), some (.ref p), v2, v3] ∧ Same H H' ∧ H' p = some (.lst ((ranksF ns i).map V.int))) ⟨none, none, rfl, S1.trans S2, A2⟩ (fun i σ H' _ ⟨_, _, _, s, _⟩ => .of (s _ _ ha)) ?_ ?_⟩
    · rintro i x σ H3 H4 hi ⟨v2, v3, rfl, s3, hp3⟩ ⟨T0, x1, y1, rfl, hT, rfl, q1, q2⟩
      rw [List.length_map] at hi
      cases q1
      have q2 : (ns.map V.int)[i]? = some y1 := q2
      rw [List.getElem?_map, List.getElem?_eq_getElem hi] at q2
      cases q2
      obtain ⟨H5, f5, S5, A5⟩ := alloc (o := .tup [V.int (i : Nat), V.int ns[i]]) hT
      rw [f5]
      have hr2 := hrng ns[i] (List.getElem_mem hi)
      refine ⟨T0, _, rfl, .of A5, rfl, _, _, rfl, _, _, rfl, rfl, _, rfl, _, rfl, _, rfl, p, _, _, _, rfl, rfl, S5 _ _ hp3, ixN_int hr2.1 (by rw [List.length_map, ranksF_len]; exact hr2.2), ⟨_, _, rfl, fun b o e => ?_, ?_⟩⟩
      · rw [upd_ne (ne_of_none e np)]
        exact S5 _ _ (s3 _ _ e)
      · rw [upd_same, ranksF, List.map_set]
        have eg : ns.getD i 0 = ns[i] := by rw [List.getD_eq_getElem?_getD, List.getElem?_eq_getElem hi]; rfl
        rw [eg]
    · rintro σ H3 ⟨v2, v3, rfl, s3, hp3⟩
      rw [List.length_map] at hp3
      refine ⟨_, rfl, _, rfl, (by show 1 ≤ sizeLine; decide), fun p4 z4 => ?_⟩
      obtain ⟨H4, e4, S4, A4⟩ := alloc (o := .lst [.int (-1)]) z4
      rw [e4]
      refine ⟨p, p4, _, _, rfl, rfl, S4 _ _ hp3, A4, by rw [List.length_map, ranksF_len]; show _ + 1 ≤ _; omega, fun p5 z5 => ?_⟩
      obtain ⟨H5, e5, S5, A5⟩ := alloc (o := .lst ((ranksF ns ns.length).map V.int ++ [.int (-1)])) z5
      rw [e5]
      refine k p5 H5 (fun b o e => S5 _ _ (S4 _ _ (s3 _ _ e))) ?_
      rw [A5]
      unfold ranksM
      rw [List.map_append]
      rfl
theorem ok_drops {f fCO fK CO : Addr} {fd fdCO fdK : FuncData} (F : Fun K "drops" "drops" sDrops f fd) (T : TxtC K mg)
    (GCO : FnOk P w K mg base (L2.CX P w) 3 fCO fdCO ["order"] (spCkOrd CO)) (gCO : mg "check_order" = some (.ref fCO)) (kCO : PySem.W.keepIn K (.ref fCO) = true) (bCO : Binds K fdCO ["order"] [])
    (GK : FnOk P w K mg base CX0 1 fK fdK ["order"] spRanks) (gK : mg "_ranks" = some (.ref fK)) (kK : PySem.W.keepIn K (.ref fK) = true) (bK : Binds K fdK ["order"] []) :
    FnOk P w K mg base (L2.CX P w) 4 f fd ["order"] (spDrops CO) := by
  refine F.okX scDrops (fun vs H Q E h => ?_) (fun cdv A outer s H vs Q E hr h => ?_)
  · obtain ⟨x, b, rfl, _⟩ := h
    rfl
  · obtain ⟨x, b, rfl, hO, kF, kT⟩ := h
    have nd := scDrops.nd
    have hr3 : Room 3 _ := hr
    have hr1 : Room 1 _ := hr.mono (by decide)
    have hz : sizeLine = 2 ^ 24 := sizeLine_eq
    refine ⟨_, (pss_cons (ps_expr (pe_call GCO hr3 rfl gCO kCO bCO .nil (passes_call (takes_of rfl rfl rfl rfl) fun _ _ _ _ h => h) (pa_cons (pv 0) pa_nil)))
      (pss_cons (ps_set (i := 1) nd rfl (Or.inr rfl) (pe_call GK hr1 rfl gK kK bK .nil pass0 (pa_cons (pv 0) pa_nil)))
      (pss_one (ps_ret (pe_lc (own := [("at", 2)]) (g := gName 2) rfl nd (pi_range1 (by rfl) T.range (pa_cons (pe_op op_sub (pe_callB call_len_seq (by rfl) T.len (by decide +kernel) (pa_cons (pv 0) pa_nil)) pe_int) pa_nil)) (blkOk_by (N := ["order", "ranks", "at"]) (sc := defScope sDrops) (by decide +kernel)) (fun _ _ _ _ _ => (pg_name (i := 2) nd rfl (Or.inl rfl))) (fun _ _ _ _ _ => (pts_one (pt_cmpR op_gt (pe_ix (r := rIxL K) ix_list (pv 1) (pe_op op_add (pe_ix (r := rIxT K) ix_tup (pv 0) (pv 2) (fun _ _ => rfl)) pe_int) (fun _ _ => rfl)) (pe_ix (r := rIxL K) ix_list (pv 1) (pe_op op_add (pe_ix (r := rIxT K) ix_tup (pv 0) (pe_op op_add (pv 2) pe_int) (fun _ _ => rfl)) pe_int) (fun _ _ => rfl)) (nomark _)))) (fun _ _ _ _ _ => (pv 2))))))), ?_⟩
    refine ⟨_, rfl, x, b, rfl, hO, fun H1 s1 => ⟨fun hb => ?_, fun hb d hd => kF hb H1 d s1 hd⟩⟩
    obtain ⟨a, ns, rfl, ha, hp, hl⟩ := hO.good hb
    have hrng := perm_rng hp
    refine ⟨_, rfl, a, ns, rfl, s1 _ _ ha, hp, hl, fun p H2 s2 A2 => ?_⟩
    have ha2 := s2 _ _ (s1 _ _ ha)
    refine ⟨_, rfl, a, _, rfl, .inr (.of ha2), _, _, rfl, rfl, _, rfl, ?_⟩
    rw [List.length_map]
    refine ⟨by omega, by omega, fun D nD => ?_⟩
    have en : ((ns.length : Int) - 1).toNat = ns.length - 1 := by omega
    rw [en]
    refine lcM_range (R' := RInt) (n := ns.length - 1) (dropAt ns) (fun k => (0 : Int) + (k : Nat)) nD rint_keep (by omega) ?_ ?_
    · intro i H3 C C0 hi s3 c1 c0
      have hi1 : i < ns.length := by omega
      have hi2 : i + 1 < ns.length := by omega
      have g1 := hrng ns[i] (List.getElem_mem hi1)
      have g2 := hrng ns[i + 1] (List.getElem_mem hi2)
      have hlr : (ranksM ns).length = ns.length + 1 := by
        unfold ranksM
        rw [List.length_append, ranksF_len]
        rfl
      have rk : ∀ m : Int, 0 ≤ m → m < ns.length → atI ((ranksM ns).map V.int) (m + 1) = some (.int ((ranksM ns).getD (m + 1).toNat 0)) := fun m h0 h1 => by
        refine atI_int (by omega) ?_
        have hlt : (m + 1).toNat < (ranksM ns).length := by rw [hlr]; omega
        rw [List.getElem?_map, List.getElem?_eq_getElem hlt, List.getD_eq_getElem?_getD, List.getElem?_eq_getElem hlt]
        rfl
      have e1 : atI (ns.map V.int) ((0 : Int) + (i : Nat)) = some (.int ns[i]) := by
        refine atI_int (by omega) ?_
        rw [show ((0 : Int) + (i : Nat)).toNat = i by omega, List.getElem?_map, List.getElem?_eq_getElem hi1]
        rfl
      have e2 : atI (ns.map V.int) ((0 : Int) + (i : Nat) + 1) = some (.int ns[i + 1]) := by
        refine atI_int (by omega) ?_
        rw [show ((0 : Int) + (i : Nat) + 1).toNat = i + 1 by omega, List.getElem?_map, List.getElem?_eq_getElem hi2]
        rfl
      have ed : dropAt ns i = decide ((ranksM ns).getD (ns[i + 1] + 1).toNat 0 < (ranksM ns).getD (ns[i] + 1).toNat 0) := by
        unfold dropAt
        rw [List.getD_eq_getElem?_getD (l := ns), List.getElem?_eq_getElem hi2, List.getD_eq_getElem?_getD (l := ns) (i := i), List.getElem?_eq_getElem hi1]
        rfl
      refine ⟨rfl, _, rfl, _, rfl, _, rfl, a, _, _, _, rfl, rfl, .of (s3 _ _ ha2), e1, _, _, rfl, rfl, p, _, _, _, rfl, rfl, .of (s3 _ _ A2), rk _ g1.1 g1.2, ?_⟩
      refine ⟨_, rfl, _, rfl, _, rfl, _, _, rfl, rfl, a, _, _, _, rfl, rfl, .of (s3 _ _ ha2), e2, _, _, rfl, rfl, p, _, _, _, rfl, rfl, .of (s3 _ _ A2), rk _ g2.1 g2.2, _, _, rfl, rfl, _, rfl, ?_⟩
      by_cases hb : dropAt ns i = true
      · rw [ed] at hb
        rw [hb]
        exact ⟨_, rfl, c1 (by rw [ed]; exact hb) _ _ (fun _ _ e => e) rfl⟩
      · have hb2 : dropAt ns i = false := by simpa using hb
        rw [ed] at hb2
        rw [hb2]
        exact c0 (by rw [ed]; exact hb2) _ fun _ _ e => e
    · intro ys H3 s3 hD hy
      have ey := rint_map hy
      have npD : H D = none := by
        cases hh : H D with
        | none => rfl
        | some o => rw [s2 _ _ (s1 _ _ hh)] at nD; cases nD
      exact kT hb a ns rfl ha D H3 npD (fun b o e => s3 _ _ (s2 _ _ (s1 _ _ e))) (by rw [hD, ey]; rfl)
end
end T23

set_option Elab.async false
set_option linter.all false
set_option maxRecDepth 100000
set_option maxHeartbeats 4000000
namespace T23
open PySem L2 EK
def numO (ns : List Int) (l : Int) : Int := if ns = [] then 1 else PySem.W.mcComb ((ns.length : Int) + l - ((dropsM ns).length : Nat) - 1) (ns.length : Int)
def spOrdN (CO CN : Addr) : Sp := fun vs H Q E => ∃ x y b, vs = [x, y] ∧ IsO H x b ∧ Pl H y ∧ (b = false → ∀ H1 d, Same H H1 → H1 d = none → E (.ref CO) (some d) (upd H1 d (.xd [("order", x)]))) ∧
  (b = true → numBB y 0 26 = false → ∀ H1 d, Same H H1 → H1 d = none → E (.ref CN) (some d) (upd H1 d (.xd [("number", y)]))) ∧
  (b = true → ∀ a ns l, x = .ref a → H a = some (.tup (ns.map V.int)) → y = .int l → 0 ≤ l → l ≤ 26 → ∀ H', Same H H' → Q (.int (numO ns l)) H')
/-- the letters put down after i places, and the letter's number -/
def ltNum (ns : List Int) : Nat → Nat
  | 0 => 0
  | i + 1 => if (dropsM ns).any (· == ((i : Nat) : Int)) = true then ltNum ns i + 1 else ltNum ns i
def ltF (ns : List Int) : Nat → List Str
  | 0 => List.replicate ns.length ""
  | i + 1 => (ltF ns i).set (ns.getD i 0).toNat ⟨#[letS.cps.getD (ltNum ns i) 0]⟩
def textM (ns : List Int) : Str := Txt.join "" (ltF ns ns.length)
theorem ltF_len (ns : List Int) : ∀ i, (ltF ns i).length = ns.length
  | 0 => by rw [ltF, List.length_replicate]
  | i + 1 => by rw [ltF, List.length_set, ltF_len ns i]
theorem ltNum_le (ns : List Int) : ∀ i, ltNum ns i ≤ i
  | 0 => Nat.le_refl _
  | i + 1 => by
    have := ltNum_le ns i
    rw [ltNum]
    split <;> omega
theorem ltF_short (ns : List Int) : ∀ i, ∀ z ∈ ltF ns i, z.length ≤ 1
  | 0, z, hz => by
    rw [ltF] at hz
    rw [(List.mem_replicate.mp hz).2]
    decide
  | i + 1, z, hz => by
    rw [ltF] at hz
    rcases List.mem_or_eq_of_mem_set hz with h | h
    · exact ltF_short ns i z h
    · rw [h]
      exact Nat.le_refl 1
theorem dropsM_len (ns : List Int) : (dropsM ns).length ≤ ns.length - 1 := by
  unfold dropsM
  rw [List.length_map]
  refine Nat.le_trans (List.length_filter_le _ _) ?_
  rw [List.length_range]
  exact Nat.le_refl _
theorem sum_le : ∀ {zs : List Str}, (∀ z ∈ zs, z.length ≤ 1) → (zs.map (·.length)).sum ≤ zs.length
  | [], _ => Nat.le_refl _
  | z :: zs, h => by
    have h1 := h z List.mem_cons_self
    have h2 := sum_le (zs := zs) fun y hy => h y (List.mem_cons_of_mem _ hy)
    rw [List.map_cons, List.sum_cons, List.length_cons]
    omega
section
variable {P : Program} {w : World} {K : PySem.W.Frag} {mg : Str → Option Value} {base : Heap} {CO CN fCO fCB fD : Addr} {fdCO fdCB fdD : FuncData}
theorem scOrdN : FnScope ["order", "letters", "size"] ["order", "letters"] (defScope sOrdN) := ⟨rfl, rfl, rfl, by decide +kernel, rfl, by decide +kernel, by decide +kernel⟩
theorem scLeastT : FnScope ["order", "dropped", "letters", "number", "at", "place"] ["order"] (defScope sLeastT) := ⟨rfl, rfl, rfl, by decide +kernel, rfl, by decide +kernel, by decide +kernel⟩
theorem ok_ordN {f : Addr} {fd : FuncData} (F : Fun K "orders_number" "orders_number" sOrdN f fd) (T : TxtC K mg)
    (GCO : FnOk P w K mg base (L2.CX P w) 3 fCO fdCO ["order"] (spCkOrd CO)) (gCO : mg "check_order" = some (.ref fCO)) (kCO : PySem.W.keepIn K (.ref fCO) = true) (bCO : Binds K fdCO ["order"] [])
    (GCB : FnOk P w K mg base (L2.CX P w) 3 fCB fdCB ["number", "least", "greatest"] (spCkNB CN)) (gCB : mg "check_number_between" = some (.ref fCB)) (kCB : PySem.W.keepIn K (.ref fCB) = true) (bCB : Binds K fdCB ["number", "least", "greatest"] [])
    (GD : FnOk P w K mg base (L2.CX P w) 4 fD fdD ["order"] (spDrops CO)) (gD : mg "drops" = some (.ref fD)) (kD : PySem.W.keepIn K (.ref fD) = true) (bD : Binds K fdD ["order"] []) :
    FnOk P w K mg base (L2.CX P w) 5 f fd ["order", "letters"] (spOrdN CO CN) := by
  refine F.okX scOrdN (fun vs H Q E h => ?_) (fun cdv A outer s H vs Q E hr h => ?_)
  · obtain ⟨x, y, b, rfl, _⟩ := h
    rfl
  · obtain ⟨x, y, b, rfl, hO, py, kF, kN, kT⟩ := h
    have nd := scOrdN.nd
    have hr4 : Room 4 _ := hr
    have hr3 : Room 3 _ := hr.mono (by decide)
    have hz : sizeLine = 2 ^ 24 := sizeLine_eq
    refine ⟨_, (pss_cons (ps_expr (pe_call GCO hr3 rfl gCO kCO bCO .nil (passes_call (takes_of rfl rfl rfl rfl) fun _ _ _ _ h => h) (pa_cons (pv 0) pa_nil)))
      (pss_cons (ps_expr (pe_call GCB hr3 rfl gCB kCB bCB .nil (passes_call (takes_of rfl rfl rfl rfl) fun _ _ _ _ h => h) (pa_cons (pv 1) (pa_cons pe_int (pa_cons (pe_callB call_len_str (by rfl) T.len (by decide +kernel) (pa_cons (C8.pe_gc (by rfl) T.letters) pa_nil)) pa_nil)))))
      (pss_cons (ps_set (i := 2) nd rfl (Or.inl rfl) (pe_callB call_len_seq (by rfl) T.len (by decide +kernel) (pa_cons (pv 0) pa_nil)))
      (pss_cons (ps_if (pt_cmpR op_eq (pv 2) pe_int (nomark _)) (pss_one (ps_ret pe_int)) pss_nil)
      (pss_one (ps_ret (pe_callBfun cr_comb (by rfl) T.comb (pa_cons (pe_op op_sub (pe_op op_sub (pe_op op_add (pv 2) (pv 1)) (pe_callB call_len_seq (by rfl) T.len (by decide +kernel) (pa_cons (pe_call GD hr4 rfl gD kD bD .nil (passes_call (takes_of rfl rfl rfl rfl) fun _ _ _ _ h => h) (pa_cons (pv 0) pa_nil)) pa_nil))) pe_int) (pa_cons (pv 2) pa_nil))))))))), ?_⟩
    refine ⟨_, rfl, x, b, rfl, hO, fun H1 s1 => ⟨fun hb => ?_, fun hb d hd => kF hb H1 d s1 hd⟩⟩
    obtain ⟨a, ns, rfl, ha, hp, hl⟩ := hO.good hb
    refine ⟨_, rfl, _, rfl, (by decide), y, 0, 26, rfl, py.keep s1, fun hy => ?_, fun hy d hd => kN hb hy H1 d s1 hd⟩
    obtain ⟨l, rfl, l1, l2⟩ := numBB_int hy
    have ha1 := s1 _ _ ha
    refine ⟨_, rfl, a, _, rfl, .inr (.of ha1), _, rfl, rfl, _, rfl, ?_⟩
    rw [List.length_map]
    refine ite2 (fun h0 => ?_) (fun h0 => ?_)
    · have e0 : ns = [] := by
        have := of_decide_eq_true h0
        injection this with this
        exact List.length_eq_zero_iff.mp (by omega)
      have := kT hb a ns l rfl ha rfl l1 l2 H1 s1
      unfold numO at this
      rw [if_pos e0] at this
      exact this
    · have e0 : ns ≠ [] := fun z => h0 (by rw [z]; rfl)
      have hpos := List.length_pos_iff.mpr e0
      refine ⟨_, rfl, _, rfl, _, _, rfl, rfl, _, rfl, .ref a, b, rfl, hO.keep s1, fun z => absurd z (by rw [hb]; decide), fun _ a' ns' ea ha' p H2 _ s2 A2 => ?_⟩
      cases ea
      rw [ha1] at ha'
      have ens : ns' = ns := by
        injection ha' with ha'
        injection ha' with ha'
        have := congrArg (List.map valI) ha'
        rw [List.map_map, List.map_map] at this
        exact (by simpa [Function.comp_def, valI] using this : ns = ns').symm
      subst ens
      have hdl := dropsM_len ns'
      refine ⟨p, _, rfl, .inl (.of A2), _, _, rfl, rfl, _, _, rfl, rfl, _, rfl, _, _, rfl, ?_⟩
      rw [List.length_map]
      refine ⟨by omega, by omega, by omega, by omega, ?_⟩
      have := kT hb a ns' l rfl ha rfl l1 l2 H2 (s1.trans s2)
      unfold numO at this
      rw [if_neg e0] at this
      exact this
end
end T23

set_option Elab.async false
set_option linter.all false
set_option maxRecDepth 100000
set_option maxHeartbeats 4000000
/-! OrdMath: the order of the suffixes by sorting and by counting. -/
namespace L2
open PySem
/-- suffixes compared sign by sign, from the k-th on -/
def lessA (cs : List Nat) (i j : Nat) : Nat → Nat → Bool
  | _, 0 => decide (j < i)
  | k, f + 1 => if cs.length ≤ i + k then decide (j < i) else if cs.length ≤ j + k then decide (j < i) else if cs.getD (i + k) 0 = cs.getD (j + k) 0 then lessA cs i j (k + 1) f else decide (cs.getD (i + k) 0 < cs.getD (j + k) 0)
def lessM (z : Str) (i j : Nat) : Bool := lessA z.cps.toList i j 0 z.cps.toList.length
def plF (z : Str) : Nat → List Int
  | 0 => List.replicate (z.cps.toList.length + 1) 0
  | i + 1 => (plF z i).set ((List.range (z.cps.toList.length + 1)).filter fun o => !decide (o = i) && lessM z o i).length (i : Nat)
def ordL (z : Str) : List Int := plF z (z.cps.toList.length + 1)
theorem plF_len (z : Str) : ∀ i, (plF z i).length = z.cps.toList.length + 1
  | 0 => by rw [plF, List.length_replicate]
  | i + 1 => by rw [plF, List.length_set, plF_len z i]
theorem drop_at {cs : List Nat} {i : Nat} (h : i < cs.length) : cs.drop i = cs.getD i 0 :: cs.drop (i + 1) := by
  rw [List.drop_eq_getElem_cons h, List.getD_eq_getElem?_getD, List.getElem?_eq_getElem h]
  rfl
theorem drop_inj {cs : List Nat} {i j : Nat} (hi : i ≤ cs.length) (hj : j ≤ cs.length) (h : cs.drop i = cs.drop j) : i = j := by
  have := congrArg List.length h
  rw [List.length_drop, List.length_drop] at this
  omega
theorem lt_cons {c d : Nat} {r s : List Nat} : (c :: r < d :: s) ↔ c < d ∨ (c = d ∧ r < s) := by
  rw [List.cons_lt_cons_iff]
/-- sign by sign is in the order of lists -/
theorem lessA_drop {cs : List Nat} {i j : Nat} (hij : i ≠ j) : ∀ (f k : Nat), k + f = cs.length → i + k ≤ cs.length → j + k ≤ cs.length → lessA cs i j k f = decide (cs.drop (i + k) < cs.drop (j + k))
  | 0, k, h, hi, hj => by omega
  | f + 1, k, h, hi, hj => by
    unfold lessA
    by_cases h1 : cs.length ≤ i + k
    · rw [if_pos h1, List.drop_of_length_le h1]
      by_cases hj2 : j + k < cs.length
      · rw [drop_at hj2, decide_eq_true (show j < i by omega), decide_eq_true (List.nil_lt_cons _ _)]
      · omega
    · rw [if_neg h1]
      by_cases h2 : cs.length ≤ j + k
      · rw [if_pos h2, List.drop_of_length_le h2, decide_eq_false (show ¬ j < i by omega), decide_eq_false (List.not_lt_nil _)]
      · rw [if_neg h2, drop_at (show i + k < cs.length by omega), drop_at (show j + k < cs.length by omega)]
        by_cases h3 : cs.getD (i + k) 0 = cs.getD (j + k) 0
        · rw [if_pos h3, lessA_drop hij f (k + 1) (by omega) (by omega) (by omega)]
          rw [show i + (k + 1) = i + k + 1 by omega, show j + (k + 1) = j + k + 1 by omega, h3]
          congr 1
          exact propext ⟨fun h => lt_cons.mpr (.inr ⟨rfl, h⟩), fun h => (lt_cons.mp h).elim (fun z => absurd z (Nat.lt_irrefl _)) (·.2)⟩
        · rw [if_neg h3]
          congr 1
          exact propext ⟨fun h => lt_cons.mpr (.inl h), fun h => (lt_cons.mp h).elim id fun z => absurd z.1 h3⟩
theorem lessM_drop {z : Str} {i j : Nat} (hij : i ≠ j) (hi : i ≤ z.cps.toList.length) (hj : j ≤ z.cps.toList.length) : lessM z i j = decide (z.cps.toList.drop i < z.cps.toList.drop j) := lessA_drop hij _ 0 (Nat.zero_add _) hi hj
/-- the order of suffixes of a list of signs -/
structure SufOrd (cs : List Nat) (l : List Nat) : Prop where
  perm : l.Perm (List.range (cs.length + 1))
  inc : l.Pairwise fun i j => cs.drop i < cs.drop j
theorem SufOrd.bd {cs l : List Nat} (h : SufOrd cs l) {i : Nat} (hi : i ∈ l) : i ≤ cs.length := by
  have := List.mem_range.mp (h.perm.mem_iff.mp hi)
  omega
theorem SufOrd.len {cs l : List Nat} (h : SufOrd cs l) : l.length = cs.length + 1 := by rw [h.perm.length_eq, List.length_range]
/-- just one -/
theorem SufOrd.one {cs l m : List Nat} (h : SufOrd cs l) (g : SufOrd cs m) : l = m := by
  refine sorted_uniq (fun i j => !decide (cs.drop j < cs.drop i)) (fun i hi j hj h1 h2 => ?_) (h.perm.trans g.perm.symm) (h.inc.imp fun {i j} q => ?_) (g.inc.imp fun {i j} q => ?_)
  · rw [Bool.not_eq_true', decide_eq_false_iff_not] at h1 h2
    exact drop_inj (h.bd hi) (h.bd hj) (List.le_antisymm h1 h2)
  · rw [Bool.not_eq_true', decide_eq_false_iff_not]
    exact fun w => List.lt_irrefl _ (List.lt_trans q w)
  · rw [Bool.not_eq_true', decide_eq_false_iff_not]
    exact fun w => List.lt_irrefl _ (List.lt_trans q w)
/-- so many are less than the one at k -/
theorem SufOrd.count {z : Str} {l : List Nat} (h : SufOrd z.cps.toList l) {k m : Nat} (hk : l[k]? = some m) : ((List.range (z.cps.toList.length + 1)).filter fun o => !decide (o = m) && lessM z o m).length = k := by
  have hkl := (List.getElem?_eq_some_iff.mp hk).1
  have hm := h.bd (List.mem_of_getElem? hk)
  have e1 : ((List.range (z.cps.toList.length + 1)).filter fun o => !decide (o = m) && lessM z o m).length = (l.filter fun o => decide (z.cps.toList.drop o < z.cps.toList.drop m)).length := by
    have e2 : ((List.range (z.cps.toList.length + 1)).filter fun o => !decide (o = m) && lessM z o m) = (List.range (z.cps.toList.length + 1)).filter fun o => decide (z.cps.toList.drop o < z.cps.toList.drop m) := by
      refine List.filter_congr fun o ho => ?_
      have ho := List.mem_range.mp ho
      by_cases hom : o = m
      · subst hom
        rw [decide_eq_true rfl, decide_eq_false (List.lt_irrefl _)]
        rfl
      · rw [decide_eq_false hom, lessM_drop hom (by omega) hm]
        rfl
    rw [e2]
    exact ((h.perm.filter _).length_eq).symm
  rw [e1]
  have e3 : l = l.take k ++ m :: l.drop (k + 1) := by
    have : l.drop k = m :: l.drop (k + 1) := by
      rw [List.drop_eq_getElem_cons hkl]
      congr 1
      exact (List.getElem?_eq_some_iff.mp hk).2
    rw [← this, List.take_append_drop]
  have hi := h.inc
  rw [e3] at hi
  obtain ⟨_, h2, h3⟩ := List.pairwise_append.mp hi
  obtain ⟨h4, _⟩ := List.pairwise_cons.mp h2
  rw [e3, List.filter_append, List.filter_eq_self.mpr fun o ho => decide_eq_true (h3 o ho m List.mem_cons_self), List.filter_cons_of_neg (by rw [decide_eq_true_eq]; exact List.lt_irrefl _),
    List.filter_eq_nil_iff.mpr fun o ho => by rw [decide_eq_true_eq]; exact fun w => List.lt_irrefl _ (List.lt_trans w (h4 o ho)), List.append_nil, List.length_take]
  omega
/-- what is put at its place by counting is the order -/
theorem SufOrd.places {z : Str} {l : List Nat} (h : SufOrd z.cps.toList l) : ordL z = l.map fun i => ((i : Nat) : Int) := by
  have gen : ∀ m : Nat, m ≤ z.cps.toList.length + 1 → ∀ k i : Nat, l[k]? = some i → i < m → (plF z m)[k]? = some ((i : Nat) : Int) := by
    intro m
    induction m with
    | zero => intro _ k i _ hi; omega
    | succ m ih =>
      intro hm k i hk hi
      have hml : m ∈ l := h.perm.mem_iff.mpr (List.mem_range.mpr (by omega))
      obtain ⟨q, hq⟩ := List.mem_iff_getElem?.mp hml
      have hql := (List.getElem?_eq_some_iff.mp hq).1
      have hlen := h.len
      rw [plF, h.count hq, List.getElem?_set]
      by_cases hkq : q = k
      · subst hkq
        rw [hq] at hk
        injection hk with hk
        rw [if_pos rfl, if_pos (by rw [plF_len]; omega), hk]
      · rw [if_neg hkq]
        refine ih (by omega) k i hk ?_
        by_cases him : i = m
        · subst him
          have hkl := (List.getElem?_eq_some_iff.mp hk).1
          have nd : l.Nodup := h.perm.nodup_iff.mpr List.nodup_range
          have ne := List.pairwise_iff_getElem.mp nd
          have eq1 := (List.getElem?_eq_some_iff.mp hq).2
          have eq2 := (List.getElem?_eq_some_iff.mp hk).2
          rcases Nat.lt_or_gt_of_ne hkq with w | w
          · exact absurd (eq1.trans eq2.symm) (ne q k hql hkl w)
          · exact absurd (eq2.trans eq1.symm) (ne k q hkl hql w)
        · omega
  apply List.ext_getElem?
  intro k
  rw [List.getElem?_map]
  cases hk : l[k]? with
  | none =>
    have : l.length ≤ k := List.getElem?_eq_none_iff.mp hk
    rw [h.len] at this
    exact List.getElem?_eq_none_iff.mpr (by rw [ordL, plF_len]; exact this)
  | some i => exact gen _ (Nat.le_refl _) k i hk (by have := h.bd (List.mem_of_getElem? hk); omega)
/-! the same by sorting -/
theorem ins_map {α β : Type} (f : α → β) (le : β → β → Bool) (le' : α → α → Bool) (a : α) : ∀ l : List α, (∀ b ∈ l, le (f a) (f b) = le' a b) → ins le (f a) (l.map f) = (ins le' a l).map f
  | [], _ => rfl
  | b :: r, h => by
    rw [List.map_cons, ins, ins, h b List.mem_cons_self]
    split
    · rfl
    · rw [ins_map f le le' a r fun c hc => h c (List.mem_cons_of_mem _ hc)]
      rfl
theorem isort_map {α β : Type} (f : α → β) (le : β → β → Bool) (le' : α → α → Bool) : ∀ l : List α, (∀ a ∈ l, ∀ b ∈ l, le (f a) (f b) = le' a b) → isort le (l.map f) = (isort le' l).map f
  | [], _ => rfl
  | a :: r, h => by
    rw [List.map_cons, isort, isort, isort_map f le le' r fun c hc d hd => h c (List.mem_cons_of_mem _ hc) d (List.mem_cons_of_mem _ hd)]
    exact ins_map f le le' a _ fun b hb => h a List.mem_cons_self b (List.mem_cons_of_mem _ ((isort_perm le' r).mem_iff.mp hb))
theorem suf_cps (z : Str) (i : Nat) (h : i ≤ z.length) : (sufS z (i : Int)).cps.toList = z.cps.toList.drop i := by
  unfold sufS
  show ((z.cps.toList.drop (HT.sIx z.length 0 (some (i : Int)))).take (HT.sIx z.length z.length none - HT.sIx z.length 0 (some (i : Int)))) = _
  rw [HT.sIx_none, HT.sIx_nat, Nat.min_eq_left h]
  have e : z.length = z.cps.toList.length := Array.length_toList.symm
  rw [e, List.take_of_length_le (by rw [List.length_drop]; omega)]
theorem dle_suf (z : Str) (i j : Nat) (hi : i ≤ z.length) (hj : j ≤ z.length) : dle (sufK z) (i : Int) (j : Int) = !decide (z.cps.toList.drop j < z.cps.toList.drop i) := by
  unfold dle PySem.W.dataLe
  show (!(PyProof.Rows.lexLt PyProof.Rows.itemOrd (PySem.W.keyToks (sufK z (j : Int))) (PySem.W.keyToks (sufK z (i : Int))))) = _
  have e : ∀ k : Nat, k ≤ z.length → PySem.W.keyToks (sufK z (k : Int)) = [Sum.inr (z.cps.toList.drop k)] := fun k hk => by
    simp only [sufK, PySem.W.keyToks, suf_cps z k hk]
  rw [e i hi, e j hj]
  congr 1
  show PyProof.Rows.lexLt PyProof.Rows.itemOrd [Sum.inr (z.cps.toList.drop j)] [Sum.inr (z.cps.toList.drop i)] = _
  have hb : PyProof.Rows.itemOrd.blt (Sum.inr (z.cps.toList.drop j)) (Sum.inr (z.cps.toList.drop i)) = decide (z.cps.toList.drop j < z.cps.toList.drop i) := rfl
  cases hd : decide (z.cps.toList.drop j < z.cps.toList.drop i) with
  | true => exact PyProof.Rows.lex_true.mpr (.inl (hb.trans hd))
  | false => exact PyProof.Rows.lex_false.mpr ⟨hb.trans hd, .inr rfl⟩
/-- the places, by sorting -/
def ordN (z : Str) : List Nat := isort (fun i j => !decide (z.cps.toList.drop j < z.cps.toList.drop i)) (List.range z.length)
theorem ordM_ordN (z : Str) : ordM z = (ordN z).map fun i => ((i : Nat) : Int) := by
  unfold ordM ordN
  have e : ((List.range z.length).map fun i => (0 : Int) + (i : Nat) * 1) = (List.range z.length).map fun k : Nat => (k : Int) := List.map_congr_left fun i _ => by omega
  rw [e]
  exact isort_map _ _ _ _ fun a ha b hb => dle_suf z a b (by have := List.mem_range.mp ha; omega) (by have := List.mem_range.mp hb; omega)
theorem ordN_ok (z : Str) : SufOrd z.cps.toList (z.length :: ordN z) := by
  have e : z.length = z.cps.toList.length := Array.length_toList.symm
  have hp : (ordN z).Perm (List.range z.length) := isort_perm _ _
  refine ⟨?_, ?_⟩
  · rw [← e, List.range_succ]
    exact (hp.cons _).trans (List.perm_append_singleton _ _).symm
  · have hs := isort_sorted (fun i j => !decide (z.cps.toList.drop j < z.cps.toList.drop i)) (fun x y w h1 h2 => by
      rw [Bool.not_eq_true', decide_eq_false_iff_not] at h1 h2 ⊢
      exact List.le_trans h1 h2) (fun x y => by
      rw [Bool.or_eq_true, Bool.not_eq_true', Bool.not_eq_true', decide_eq_false_iff_not, decide_eq_false_iff_not]
      exact List.le_total _ _) (List.range z.length)
    have nd : (ordN z).Nodup := hp.nodup_iff.mpr List.nodup_range
    have bd : ∀ i ∈ ordN z, i < z.length := fun i hi => List.mem_range.mp (hp.mem_iff.mp hi)
    refine List.pairwise_cons.mpr ⟨fun i hi => ?_, ?_⟩
    · rw [e, List.drop_length, drop_at (by rw [← e]; exact bd i hi)]
      exact List.nil_lt_cons _ _
    · have both := hs.and nd
      refine List.Pairwise.imp_of_mem (fun {i j} hi hj ⟨q1, q2⟩ => ?_) both
      rw [Bool.not_eq_true', decide_eq_false_iff_not] at q1
      refine Classical.byContradiction fun w => q2 (drop_inj (by have := bd i hi; omega) (by have := bd j hj; omega) (List.le_antisymm q1 w))
/-- by counting as by sorting -/
theorem ord_eq (z : Str) : ordL z = ((z.length : Nat) : Int) :: ordM z := by
  rw [(ordN_ok z).places, ordM_ordN]
  rfl
/-- what is sorted is the order -/
theorem ord_is {z : Str} {l : List Nat} (h : SufOrd z.cps.toList l) : ((z.length : Nat) : Int) :: ordM z = l.map fun i => ((i : Nat) : Int) := by
  rw [← ord_eq, h.places]
end L2

set_option Elab.async false
set_option linter.all false
set_option maxRecDepth 100000
set_option maxHeartbeats 4000000
/-! OrdText23: the least text of an order. -/
namespace T23
open PySem L2 EK
/-- an order as places -/
def sig (ns : List Int) (i : Nat) : Nat := (ns.getD i 0).toNat
theorem perm_of {ns : List Int} (h : permB ns = true) : ns.Perm (rangeI ns.length) := by
  have := of_decide_eq_true h
  rw [← this]
  exact (isort_perm leI ns).symm
theorem nodup_of {ns : List Int} (h : permB ns = true) : ns.Nodup := by
  refine (perm_of h).nodup_iff.mpr ?_
  unfold rangeI
  rw [List.nodup_iff_pairwise_ne, List.pairwise_map]
  exact List.pairwise_lt_range.imp fun q => by omega
theorem ns_at {ns : List Int} (h : permB ns = true) {i : Nat} (hi : i < ns.length) : ns[i] = (sig ns i : Nat) ∧ sig ns i < ns.length := by
  have := perm_rng h ns[i] (List.getElem_mem hi)
  have e : ns.getD i 0 = ns[i] := by rw [List.getD_eq_getElem?_getD, List.getElem?_eq_getElem hi]; rfl
  unfold sig
  rw [e]
  omega
theorem sig_inj {ns : List Int} (h : permB ns = true) {i j : Nat} (hi : i < ns.length) (hj : j < ns.length) (e : sig ns i = sig ns j) : i = j := by
  have h1 := (ns_at h hi).1
  have h2 := (ns_at h hj).1
  have h3 : ns[i] = ns[j] := by rw [h1, h2, e]
  have nd := List.pairwise_iff_getElem.mp (nodup_of h)
  rcases Nat.lt_trichotomy i j with w | w | w
  · exact absurd h3 (nd i j hi hj w)
  · exact w
  · exact absurd h3.symm (nd j i hj hi w)
theorem sig_sur {ns : List Int} (h : permB ns = true) {p : Nat} (hp : p < ns.length) : ∃ i, i < ns.length ∧ sig ns i = p := by
  have hm : ((0 : Int) + (p : Nat)) ∈ ns := (perm_of h).mem_iff.mpr (List.mem_map.mpr ⟨p, List.mem_range.mpr hp, rfl⟩)
  obtain ⟨i, hi, e⟩ := List.mem_iff_getElem.mp hm
  refine ⟨i, hi, ?_⟩
  have := (ns_at h hi).1
  omega
/-- where a place's suffix stands -/
def rk (ns : List Int) (p : Nat) : Int := (ranksM ns).getD p 0
theorem rk_end (ns : List Int) : rk ns ns.length = -1 := by
  unfold rk ranksM
  rw [List.getD_eq_getElem?_getD, List.getElem?_append_right (by rw [ranksF_len]; exact Nat.le_refl _), ranksF_len, Nat.sub_self]
  rfl
theorem ranksF_at {ns : List Int} (h : permB ns = true) : ∀ k, k ≤ ns.length → ∀ i, i < k → (ranksF ns k)[sig ns i]? = some ((i : Nat) : Int)
  | 0, _, i, hi => absurd hi (Nat.not_lt_zero _)
  | k + 1, hk, i, hi => by
    rw [ranksF, List.getElem?_set]
    show (if sig ns k = sig ns i then _ else _) = _
    by_cases e : sig ns k = sig ns i
    · have := sig_inj h (show k < ns.length by omega) (show i < ns.length by omega) e
      subst this
      rw [if_pos rfl, if_pos (by rw [ranksF_len]; exact (ns_at h (show k < ns.length by omega)).2)]
    · rw [if_neg e]
      refine ranksF_at h k (by omega) i ?_
      rcases Nat.lt_or_ge i k with w | w
      · exact w
      · have : i = k := by omega
        exact absurd (by rw [this]) e
theorem rk_sig {ns : List Int} (h : permB ns = true) {i : Nat} (hi : i < ns.length) : rk ns (sig ns i) = (i : Nat) := by
  unfold rk ranksM
  have hl := (ns_at h hi).2
  rw [List.getD_eq_getElem?_getD, List.getElem?_append_left (by rw [ranksF_len]; exact hl), ranksF_at h _ (Nat.le_refl _) i hi]
  rfl
theorem rk_inj {ns : List Int} (h : permB ns = true) {a b : Nat} (ha : a ≤ ns.length) (hb : b ≤ ns.length) (e : rk ns a = rk ns b) : a = b := by
  rcases Nat.lt_or_ge a ns.length with wa | wa
  · obtain ⟨i, hi, rfl⟩ := sig_sur h wa
    rw [rk_sig h hi] at e
    rcases Nat.lt_or_ge b ns.length with wb | wb
    · obtain ⟨j, hj, rfl⟩ := sig_sur h wb
      rw [rk_sig h hj] at e
      rw [show i = j by omega]
    · have : b = ns.length := by omega
      rw [this, rk_end] at e
      omega
  · have ea : a = ns.length := by omega
    rw [ea, rk_end] at e
    rcases Nat.lt_or_ge b ns.length with wb | wb
    · obtain ⟨j, hj, rfl⟩ := sig_sur h wb
      rw [rk_sig h hj] at e
      omega
    · omega
theorem dropAt_iff {ns : List Int} (h : permB ns = true) {i : Nat} (hi : i + 1 < ns.length) : dropAt ns i = decide (rk ns (sig ns (i + 1) + 1) < rk ns (sig ns i + 1)) := by
  have e : ∀ k, k < ns.length → (ns.getD k 0 + 1).toNat = sig ns k + 1 := fun k hk => by
    have h1 := ns_at h hk
    have e : ns.getD k 0 = ns[k] := by rw [List.getD_eq_getElem?_getD, List.getElem?_eq_getElem hk]; rfl
    rw [e, h1.1]
    omega
  unfold dropAt rk
  rw [e i (by omega), e (i + 1) hi]
theorem drops_any {ns : List Int} {i : Nat} : (dropsM ns).any (· == ((i : Nat) : Int)) = true ↔ i < ns.length - 1 ∧ dropAt ns i = true := by
  unfold dropsM
  rw [List.any_eq_true]
  constructor
  · rintro ⟨x, hx, e⟩
    obtain ⟨j, hj, rfl⟩ := List.mem_map.mp hx
    have e := eq_of_beq e
    have : j = i := by omega
    subst this
    have := List.mem_filter.mp hj
    exact ⟨List.mem_range.mp this.1, this.2⟩
  · rintro ⟨h1, h2⟩
    exact ⟨_, List.mem_map.mpr ⟨i, List.mem_filter.mpr ⟨List.mem_range.mpr h1, h2⟩, rfl⟩, by simp⟩
theorem ltNum_step (ns : List Int) (i : Nat) : ltNum ns (i + 1) = ltNum ns i + (if i < ns.length - 1 ∧ dropAt ns i = true then 1 else 0) := by
  rw [ltNum]
  by_cases h : i < ns.length - 1 ∧ dropAt ns i = true
  · rw [if_pos (drops_any.mpr h), if_pos h]
  · rw [if_neg (fun z => h (drops_any.mp z)), if_neg h, Nat.add_zero]
theorem ltNum_mono (ns : List Int) {i j : Nat} (h : i ≤ j) : ltNum ns i ≤ ltNum ns j := by
  induction j with
  | zero => rw [show i = 0 by omega]; exact Nat.le_refl _
  | succ j ih =>
    rcases Nat.lt_or_ge i (j + 1) with w | w
    · have := ih (by omega)
      rw [ltNum_step]
      split <;> omega
    · rw [show i = j + 1 by omega]; exact Nat.le_refl _
/-- the text's letters, place by place -/
def lettersM (ns : List Int) : List Nat := (List.range ns.length).map fun p => 97 + ltNum ns (rk ns p).toNat
theorem ltF_at {ns : List Int} (h : permB ns = true) : ∀ k, k ≤ ns.length → ∀ i, i < k → (ltF ns k)[sig ns i]? = some (⟨#[letS.cps.getD (ltNum ns i) 0]⟩ : Str)
  | 0, _, i, hi => absurd hi (Nat.not_lt_zero _)
  | k + 1, hk, i, hi => by
    rw [ltF, List.getElem?_set]
    show (if sig ns k = sig ns i then _ else _) = _
    by_cases e : sig ns k = sig ns i
    · have := sig_inj h (show k < ns.length by omega) (show i < ns.length by omega) e
      subst this
      rw [if_pos rfl, if_pos (by rw [ltF_len]; exact (ns_at h (show k < ns.length by omega)).2)]
    · rw [if_neg e]
      refine ltF_at h k (by omega) i ?_
      rcases Nat.lt_or_ge i k with w | w
      · exact w
      · have : i = k := by omega
        exact absurd (by rw [this]) e
theorem letS_at : ∀ k, k < 26 → letS.cps.getD k 0 = 97 + k := by decide +kernel
theorem ltNum_count (ns : List Int) : ∀ i, i ≤ ns.length - 1 → ltNum ns i = ((List.range i).filter (dropAt ns)).length
  | 0, _ => rfl
  | i + 1, h => by
    rw [ltNum_step, ltNum_count ns i (by omega), List.range_succ, List.filter_append, List.length_append]
    congr 1
    by_cases hd : dropAt ns i = true
    · rw [if_pos ⟨by omega, hd⟩, List.filter_cons_of_pos hd]; rfl
    · rw [if_neg (fun w => hd w.2), List.filter_cons_of_neg hd]; rfl
theorem ltNum_last (ns : List Int) : ltNum ns (ns.length - 1) = (dropsM ns).length := by
  rw [ltNum_count ns _ (Nat.le_refl _), dropsM, List.length_map]
theorem ltNum_lt {ns : List Int} {i : Nat} (hi : i < ns.length) : ltNum ns i ≤ (dropsM ns).length := by
  rw [← ltNum_last]
  exact ltNum_mono ns (by omega)
theorem textM_letters {ns : List Int} (h : permB ns = true) (hn : (dropsM ns).length < 26) : (textM ns).cps.toList = lettersM ns := by
  unfold textM
  rw [join_list]
  have e : (ltF ns ns.length).map (fun y => y.cps.toList) = (lettersM ns).map fun c => [c] := by
    apply List.ext_getElem?
    intro p
    rw [List.getElem?_map, List.getElem?_map]
    rcases Nat.lt_or_ge p ns.length with w | w
    · obtain ⟨i, hi, rfl⟩ := sig_sur h w
      have hl := ltNum_lt (ns := ns) hi
      rw [ltF_at h _ (Nat.le_refl _) i hi, lettersM, List.getElem?_map, List.getElem?_range w, letS_at _ (by omega)]
      show some [97 + ltNum ns i] = some [97 + ltNum ns (rk ns (sig ns i)).toNat]
      rw [rk_sig h hi, Int.toNat_natCast]
    · rw [List.getElem?_eq_none_iff.mpr (by rw [ltF_len]; exact w), List.getElem?_eq_none_iff.mpr (by rw [lettersM, List.length_map, List.length_range]; exact w)]
      rfl
  rw [e]
  clear e
  induction lettersM ns with
  | nil => rfl
  | cons a l ih => rw [List.map_cons, List.flatten_cons, ih]; rfl
theorem letters_sig {ns : List Int} (h : permB ns = true) {i : Nat} (hi : i < ns.length) : (lettersM ns).getD (sig ns i) 0 = 97 + ltNum ns i := by
  have hs := (ns_at h hi).2
  rw [lettersM, List.getD_eq_getElem?_getD, List.getElem?_map, List.getElem?_range hs]
  show 97 + ltNum ns (rk ns (sig ns i)).toNat = _
  rw [rk_sig h hi, Int.toNat_natCast]
theorem letters_len (ns : List Int) : (lettersM ns).length = ns.length := by rw [lettersM, List.length_map, List.length_range]
/-- where letters stay, the suffixes behind keep their order -/
theorem chain {ns : List Int} (h : permB ns = true) {i : Nat} : ∀ d, i + d + 1 < ns.length → ltNum ns i = ltNum ns (i + d + 1) → rk ns (sig ns i + 1) < rk ns (sig ns (i + d + 1) + 1) := by
  have one : ∀ k, k + 1 < ns.length → ltNum ns k = ltNum ns (k + 1) → rk ns (sig ns k + 1) < rk ns (sig ns (k + 1) + 1) := by
    intro k hk e
    rw [ltNum_step] at e
    have hd : ¬ (k < ns.length - 1 ∧ dropAt ns k = true) := fun z => by rw [if_pos z] at e; omega
    have hd2 : ¬ dropAt ns k = true := fun z => hd ⟨by omega, z⟩
    rw [dropAt_iff h hk, decide_eq_true_eq] at hd2
    have hne : rk ns (sig ns k + 1) ≠ rk ns (sig ns (k + 1) + 1) := fun z => by
      have h1 := (ns_at h (show k < ns.length by omega)).2
      have h2 := (ns_at h hk).2
      have := rk_inj h (by omega) (by omega) z
      have := sig_inj h (show k < ns.length by omega) hk (by omega)
      omega
    omega
  intro d
  induction d with
  | zero => exact fun hk e => one i hk e
  | succ d ih =>
    intro hk e
    have m1 := ltNum_mono ns (show i ≤ i + d + 1 by omega)
    have m2 := ltNum_mono ns (show i + d + 1 ≤ i + (d + 1) + 1 by omega)
    have h1 := ih (by omega) (by omega)
    have h2 := one (i + d + 1) hk (by rw [show i + d + 1 + 1 = i + (d + 1) + 1 by omega]; omega)
    rw [show i + d + 1 + 1 = i + (d + 1) + 1 by omega] at h2
    omega
theorem letters_less {ns : List Int} (h : permB ns = true) : ∀ m p q, p ≤ ns.length → q ≤ ns.length → ns.length - p ≤ m → rk ns p < rk ns q → (lettersM ns).drop p < (lettersM ns).drop q := by
  have hll := letters_len ns
  intro m
  induction m with
  | zero =>
    intro p q hp hq hm hr
    have hpn : p = ns.length := by omega
    have hqn : q < ns.length := by
      rcases Nat.lt_or_ge q ns.length with w | w
      · exact w
      · rw [hpn, show q = ns.length by omega] at hr; omega
    rw [List.drop_of_length_le (by omega), drop_at (by omega)]
    exact List.nil_lt_cons _ _
  | succ m ih =>
    intro p q hp hq hm hr
    rcases Nat.lt_or_ge p ns.length with wp | wp
    · obtain ⟨i, hi, rfl⟩ := sig_sur h wp
      rw [rk_sig h hi] at hr
      have wq : q < ns.length := by
        rcases Nat.lt_or_ge q ns.length with w | w
        · exact w
        · rw [show q = ns.length by omega, rk_end] at hr; omega
      obtain ⟨j, hj, rfl⟩ := sig_sur h wq
      rw [rk_sig h hj] at hr
      rw [drop_at (show sig ns i < (lettersM ns).length by omega), drop_at (show sig ns j < (lettersM ns).length by omega), letters_sig h hi, letters_sig h hj]
      have hm2 := ltNum_mono ns (show i ≤ j by omega)
      rcases Nat.lt_or_ge (ltNum ns i) (ltNum ns j) with w | w
      · exact lt_cons.mpr (.inl (by omega))
      · refine lt_cons.mpr (.inr ⟨by omega, ?_⟩)
        obtain ⟨d, hd⟩ : ∃ d, j = i + d + 1 := ⟨j - i - 1, by omega⟩
        have hc := chain (i := i) h d (by omega) (by rw [← hd]; omega)
        rw [← hd] at hc
        exact ih _ _ (by omega) (by omega) (by omega) hc
    · exact ih p q hp hq (by omega) hr
def sigL (ns : List Int) : List Nat := (List.range ns.length).map (sig ns)
theorem sigL_ns {ns : List Int} (h : permB ns = true) : (sigL ns).map (fun i => ((i : Nat) : Int)) = ns := by
  apply List.ext_getElem?
  intro i
  rw [sigL, List.getElem?_map, List.getElem?_map]
  rcases Nat.lt_or_ge i ns.length with w | w
  · rw [List.getElem?_range w, List.getElem?_eq_getElem w, (ns_at h w).1]
    rfl
  · rw [List.getElem?_eq_none_iff.mpr w, List.getElem?_eq_none_iff.mpr (by rw [List.length_range]; exact w)]
    rfl
theorem sigL_perm {ns : List Int} (h : permB ns = true) : (sigL ns).Perm (List.range ns.length) := by
  have e := sigL_ns h
  have hp := perm_of h
  have h2 : (ns.map Int.toNat).Perm ((rangeI ns.length).map Int.toNat) := hp.map _
  have e1 : ns.map Int.toNat = sigL ns := by
    have e0 : ((sigL ns).map fun i => ((i : Nat) : Int)).map Int.toNat = sigL ns := by
      rw [List.map_map]
      exact List.map_id'' (fun i => by simp) _
    rw [e] at e0
    exact e0
  have e2 : (rangeI ns.length).map Int.toNat = List.range ns.length := by
    unfold rangeI
    rw [List.map_map]
    exact List.map_id'' (fun i => by simp) _
  rw [e1, e2] at h2
  exact h2
theorem ord_of_rk {cs : List Nat} {ns : List Int} (h : permB ns = true) (hl : cs.length = ns.length) (hlt : ∀ p q, p ≤ ns.length → q ≤ ns.length → rk ns p < rk ns q → cs.drop p < cs.drop q) : SufOrd cs (ns.length :: sigL ns) := by
  refine ⟨?_, List.pairwise_cons.mpr ⟨fun i hi => ?_, ?_⟩⟩
  · rw [hl, List.range_succ]
    exact ((sigL_perm h).cons _).trans (List.perm_append_singleton _ _).symm
  · obtain ⟨k, hk, rfl⟩ := List.mem_map.mp hi
    have hk := List.mem_range.mp hk
    have := (ns_at h hk).2
    exact hlt _ _ (Nat.le_refl _) (by omega) (by rw [rk_end, rk_sig h hk]; omega)
  · unfold sigL
    rw [List.pairwise_map]
    refine List.Pairwise.imp_of_mem (fun {i j} hi hj q => ?_) (List.pairwise_lt_range (n := ns.length))
    have hi := List.mem_range.mp hi
    have hj := List.mem_range.mp hj
    have h1 := (ns_at h hi).2
    have h2 := (ns_at h hj).2
    exact hlt _ _ (by omega) (by omega) (by rw [rk_sig h hi, rk_sig h hj]; omega)
/-- the least text has the order -/
theorem text_has {ns : List Int} (h : permB ns = true) (hn : (dropsM ns).length < 26) : ordM (textM ns) = ns ∧ (textM ns).length = ns.length := by
  have ht := textM_letters h hn
  have hl : (textM ns).length = ns.length := by
    rw [show (textM ns).length = (textM ns).cps.toList.length from Array.length_toList.symm, ht, letters_len]
  have ho : SufOrd (textM ns).cps.toList (ns.length :: sigL ns) := by
    rw [ht]
    exact ord_of_rk h (letters_len ns) fun p q hp hq hr => letters_less h _ p q hp hq (Nat.le_refl _) hr
  have e := ord_is ho
  rw [List.map_cons, sigL_ns h] at e
  exact ⟨(List.cons.inj e).2, hl⟩
/-- an order of suffixes by their ranks -/
theorem rk_of_ord {cs : List Nat} {ns : List Int} (h : permB ns = true) (ho : SufOrd cs (ns.length :: sigL ns)) {p q : Nat} (hp : p ≤ ns.length) (hq : q ≤ ns.length) (hr : rk ns p < rk ns q) : cs.drop p < cs.drop q := by
  have hlen : (ns.length :: sigL ns).length = ns.length + 1 := by rw [List.length_cons, sigL, List.length_map, List.length_range]
  have at_ : ∀ a, a ≤ ns.length → (ns.length :: sigL ns)[(rk ns a + 1).toNat]? = some a := by
    intro a ha
    rcases Nat.lt_or_ge a ns.length with w | w
    · obtain ⟨i, hi, rfl⟩ := sig_sur h w
      rw [rk_sig h hi, show (((i : Nat) : Int) + 1).toNat = i + 1 by omega, List.getElem?_cons_succ, sigL, List.getElem?_map, List.getElem?_range hi]
      rfl
    · rw [show a = ns.length by omega, rk_end]
      rfl
  have h1 := at_ p hp
  have h2 := at_ q hq
  have b1 : -1 ≤ rk ns p := by
    rcases Nat.lt_or_ge p ns.length with w | w
    · obtain ⟨i, hi, rfl⟩ := sig_sur h w
      rw [rk_sig h hi]; omega
    · rw [show p = ns.length by omega, rk_end]; omega
  have pw := List.pairwise_iff_getElem.mp ho.inc
  have l1 := (List.getElem?_eq_some_iff.mp h1).1
  have l2 := (List.getElem?_eq_some_iff.mp h2).1
  have := pw _ _ l1 l2 (by omega)
  rw [(List.getElem?_eq_some_iff.mp h1).2, (List.getElem?_eq_some_iff.mp h2).2] at this
  exact this
/-- any text of the order is not below it, at no place -/
theorem text_least {cs : List Nat} {ns : List Int} (h : permB ns = true) (ho : SufOrd cs (ns.length :: sigL ns)) (hc : ∀ c ∈ cs, 97 ≤ c) : ∀ i, i < ns.length → 97 + ltNum ns i ≤ cs.getD (sig ns i) 0 := by
  have hl : cs.length = ns.length := by
    have := ho.len
    rw [List.length_cons, sigL, List.length_map, List.length_range] at this
    omega
  have mem : ∀ i, i < ns.length → cs.getD (sig ns i) 0 ∈ cs := fun i hi => by
    have := (ns_at h hi).2
    rw [List.getD_eq_getElem?_getD, List.getElem?_eq_getElem (by omega)]
    exact List.getElem_mem _
  intro i
  induction i with
  | zero => exact fun hi => hc _ (mem 0 hi)
  | succ i ih =>
    intro hi
    have h0 := ih (by omega)
    have s1 := (ns_at h (show i < ns.length by omega)).2
    have s2 := (ns_at h hi).2
    have hlt := rk_of_ord h ho (p := sig ns i) (q := sig ns (i + 1)) (by omega) (by omega) (by rw [rk_sig h (by omega), rk_sig h hi]; omega)
    rw [drop_at (show sig ns i < cs.length by omega), drop_at (show sig ns (i + 1) < cs.length by omega)] at hlt
    rw [ltNum_step]
    rcases lt_cons.mp hlt with w | ⟨w1, w2⟩
    · split <;> omega
    · have hd : ¬ (i < ns.length - 1 ∧ dropAt ns i = true) := by
        rintro ⟨_, hd⟩
        rw [dropAt_iff h hi, decide_eq_true_eq] at hd
        have := rk_of_ord h ho (by omega) (by omega) hd
        exact List.lt_irrefl _ (List.lt_trans this w2)
      rw [if_neg hd]
      omega
end T23

set_option Elab.async false
set_option linter.all false
set_option maxRecDepth 100000
set_option maxHeartbeats 4000000
namespace T23
open PySem L2 EK LamX
def spLeastT (CO : Addr) : Sp := fun vs H Q E => ∃ x b, vs = [x] ∧ IsO H x b ∧ (b = false → ∀ H1 d, Same H H1 → H1 d = none → E (.ref CO) (some d) (upd H1 d (.xd [("order", x)]))) ∧
  (b = true → ∀ a ns, x = .ref a → H a = some (.tup (ns.map V.int)) → ((dropsM ns).length < 26 → ∀ H', Same H H' → Q (.str (textM ns)) H') ∧ (26 ≤ (dropsM ns).length → ∀ H', Same H H' → Q .non H'))
section
variable {P : Program} {w : World} {K : PySem.W.Frag} {mg : Str → Option Value} {base : Heap} {CO CN fCO fCB fD : Addr} {fdCO fdCB fdD : FuncData}
theorem ok_leastT {f : Addr} {fd : FuncData} (F : Fun K "least_text" "least_text" sLeastT f fd) (T : TxtC K mg)
    (GCO : FnOk P w K mg base (L2.CX P w) 3 fCO fdCO ["order"] (spCkOrd CO)) (gCO : mg "check_order" = some (.ref fCO)) (kCO : PySem.W.keepIn K (.ref fCO) = true) (bCO : Binds K fdCO ["order"] [])
    (GD : FnOk P w K mg base (L2.CX P w) 4 fD fdD ["order"] (spDrops CO)) (gD : mg "drops" = some (.ref fD)) (kD : PySem.W.keepIn K (.ref fD) = true) (bD : Binds K fdD ["order"] []) :
    FnOk P w K mg base (L2.CX P w) 5 f fd ["order"] (spLeastT CO) := by
  refine F.okX scLeastT (fun vs H Q E h => ?_) (fun cdv A outer s H vs Q E hr h => ?_)
  · obtain ⟨x, b, rfl, _⟩ := h
    rfl
  · obtain ⟨x, b, rfl, hO, kF, kT⟩ := h
    have nd := scLeastT.nd
    have hr4 : Room 4 _ := hr
    have hr3 : Room 3 _ := hr.mono (by decide)
    have hz : sizeLine = 2 ^ 24 := sizeLine_eq
    refine ⟨_, (pss_cons (ps_expr (pe_call GCO hr3 rfl gCO kCO bCO .nil (passes_call (takes_of rfl rfl rfl rfl) fun _ _ _ _ h => h) (pa_cons (pv 0) pa_nil)))
      (pss_cons (ps_set (i := 1) nd rfl (Or.inl rfl) (pe_call GD hr4 rfl gD kD bD .nil (passes_call (takes_of rfl rfl rfl rfl) fun _ _ _ _ h => h) (pa_cons (pv 0) pa_nil)))
      (pss_cons (ps_if (pt_cmpR op_ge (pe_callB call_len_seq (by rfl) T.len (by decide +kernel) (pa_cons (pv 1) pa_nil)) (pe_callB call_len_str (by rfl) T.len (by decide +kernel) (pa_cons (C8.pe_gc (by rfl) T.letters) pa_nil)) (nomark _)) (pss_one (ps_ret pe_non)) pss_nil)
      (pss_cons (ps_set (i := 2) nd rfl (Or.inl rfl) (pe_op op_rep (pe_lst (pa_cons pe_str pa_nil)) (pe_callB call_len_seq (by rfl) T.len (by decide +kernel) (pa_cons (pv 0) pa_nil))))
      (pss_cons (ps_set (i := 3) nd rfl (Or.inl rfl) pe_int)
      (pss_cons (ps_for (passes_of rfl) rfl (pi_enumT (by rfl) T.enumerate (pa_cons (pv 0) pa_nil)) (pg_tup rfl (pgs_cons (pg_name (i := 4) nd rfl (Or.inl rfl)) (pgs_cons (pg_name (i := 5) nd rfl (Or.inl rfl)) pgs_nil))) (pss_cons (ps_asg (pe_ix ix_str (C8.pe_gc (by rfl) T.letters) (pv 3) (fun _ _ => rfl)) (pg_sub (pv 2) (pv 5) set_list))
      (pss_one (ps_if (pt_cmpR op_in_seq (pv 4) (pv 1) (by rfl)) (pss_one (ps_aug (i := 3) nd rfl (.inl rfl) pe_int ip_add)) pss_nil))))
      (pss_one (ps_ret (pe_join pe_str (pv 2)))))))))), ?_⟩
    refine ⟨_, rfl, x, b, rfl, hO, fun H1 s1 => ⟨fun hb => ?_, fun hb d hd => kF hb H1 d s1 hd⟩⟩
    obtain ⟨a, ns, rfl, ha, hp, hl⟩ := hO.good hb
    obtain ⟨kk, kn⟩ := kT hb a ns rfl ha
    have hrng := perm_rng hp
    have ha1 := s1 _ _ ha
    refine ⟨_, rfl, .ref a, b, rfl, hO.keep s1, fun z => absurd z (by rw [hb]; decide), fun _ a' ns' ea ha' pd H2 _ s2 A2 => ?_⟩
    cases ea
    rw [ha1] at ha'
    have ens : ns' = ns := by
      injection ha' with ha'
      injection ha' with ha'
      have := congrArg (List.map valI) ha'
      rw [List.map_map, List.map_map] at this
      exact (by simpa [Function.comp_def, valI] using this : ns = ns').symm
    subst ens
    have hdl := dropsM_len ns'
    refine ⟨_, rfl, pd, _, rfl, .inl (.of A2), _, rfl, (by decide), _, _, rfl, rfl, _, rfl, ?_⟩
    rw [List.length_map]
    have h26 : letS.length = 26 := by decide
    refine ite2 (fun h0 => kn (by have := of_decide_eq_true h0; rw [h26] at this; omega) H2 fun b o e => s2 _ _ (s1 _ _ e)) (fun h0 => ?_)
    have h0 : (dropsM ns').length < 26 := by
      have h9 : (dropsM ns').length < letS.length := by simpa using h0
      rw [h26] at h9
      exact h9
    refine ⟨(by show 1 ≤ sizeLine; decide), fun p0 z0 => ?_⟩
    obtain ⟨H3, e3, S3, A3⟩ := alloc (o := .lst [.str ""]) z0
    rw [e3]
    refine ⟨_, rfl, a, _, rfl, .inr (.of (S3 _ _ (s2 _ _ ha1))), p0, _, _, rfl, rfl, A3, ?_⟩
    rw [List.length_map]
    refine ⟨by omega, by omega, by show 1 * _ ≤ _; omega, fun p z1 => ?_⟩
    have er : (List.replicate ((ns'.length : Int)).toNat [V.str ""]).flatten = (ltF ns' 0).map V.str := by
      rw [List.flatten_replicate_singleton, ltF, List.map_replicate, show ((ns'.length : Int)).toNat = ns'.length by omega]
    rw [er]
    obtain ⟨H4, e4, S4, A4⟩ := alloc (o := .lst ((ltF ns' 0).map V.str)) z1
    rw [e4]
    have np : H2 p = none := by
      cases hh : H2 p with
      | none => rfl
      | some o => rw [S3 _ _ hh] at z1; cases z1
    refine ⟨_, rfl, a, _, rfl, .of (S4 _ _ (S3 _ _ (s2 _ _ ha1))), for_it walk_enumT (fun i σ H' => ∃ v4 v5 : Option V, σ = [some (.ref a), some (.ref pd), some (.ref p), some (.int (ltNum ns' i : Nat)), v4, v5] ∧ Same H2 H' ∧ H' p = some (.lst ((ltF ns' i).map V.str))) ⟨none, none, rfl, S3.trans S4, A4⟩ (fun i σ H' _ ⟨_, _, _, s, _⟩ => .of (s _ _ (s2 _ _ ha1))) ?_ ?_⟩
    · rintro i x σ H5 H6 hi ⟨v4, v5, rfl, s5, hp5⟩ ⟨T0, x1, y1, rfl, hT, rfl, q1, q2⟩
      rw [List.length_map] at hi
      cases q1
      have q2 : (ns'.map V.int)[i]? = some y1 := q2
      rw [List.getElem?_map, List.getElem?_eq_getElem hi] at q2
      cases q2
      obtain ⟨H7, f7, S7, A7⟩ := alloc (o := .tup [V.int (i : Nat), V.int ns'[i]]) hT
      rw [f7]
      have hr2 := hrng ns'[i] (List.getElem_mem hi)
      have hln := ltNum_le ns' i
      have hc : atI letS.cps.toList ((ltNum ns' i : Nat) : Int) = some (letS.cps.getD (ltNum ns' i) 0) := by
        refine atI_nat ?_
        have h26b : letS.cps.size = 26 := by decide
        have hlq := ltNum_lt (ns := ns') hi
        have hlt : ltNum ns' i < letS.cps.size := by rw [h26b]; omega
        rw [Array.getElem?_toList, Array.getElem?_eq_getElem hlt, Array.getD_eq_getD_getElem?, Array.getElem?_eq_getElem hlt]
        rfl
      refine ⟨T0, _, rfl, .of A7, rfl, _, _, rfl, _, _, rfl, rfl, _, rfl, _, _, _, rfl, rfl, (by decide), hc, _, rfl, _, rfl, p, _, _, _, rfl, rfl, S7 _ _ hp5, ixN_int hr2.1 (by rw [List.length_map, ltF_len]; exact hr2.2), ?_⟩
      have S8 : Same H2 (upd H7 p (.lst (((ltF ns' i).map V.str).set ns'[i].toNat (.str ⟨#[letS.cps.getD (ltNum ns' i) 0]⟩)))) := fun b o e => by
        rw [upd_ne (ne_of_none e np)]
        exact S7 _ _ (s5 _ _ e)
      have A8 : (upd H7 p (.lst (((ltF ns' i).map V.str).set ns'[i].toNat (.str ⟨#[letS.cps.getD (ltNum ns' i) 0]⟩)))) p = some (.lst ((ltF ns' (i + 1)).map V.str)) := by
        have eg : ns'.getD i 0 = ns'[i] := by rw [List.getD_eq_getElem?_getD, List.getElem?_eq_getElem hi]; rfl
        rw [upd_same, ltF, List.map_set, eg]
      refine ⟨_, rfl, _, rfl, pd, _, rfl, .inl (.of (S8 _ _ A2)), rfl, flat_ints _, _, rfl, ?_⟩
      rw [inV_ints]
      by_cases hd : (dropsM ns').any (· == ((i : Nat) : Int)) = true
      · rw [hd]
        refine ⟨_, rfl, _, _, rfl, rfl, some (.int (i : Nat)), some (.int ns'[i]), ?_, S8, A8⟩
        rw [ltNum, if_pos hd]
        rfl
      · have hd2 : (dropsM ns').any (· == ((i : Nat) : Int)) = false := Bool.eq_false_iff.mpr hd
        rw [hd2]
        refine ⟨some (.int (i : Nat)), some (.int ns'[i]), ?_, S8, A8⟩
        rw [ltNum, if_neg hd]
        rfl
    · rintro σ H5 ⟨v4, v5, rfl, s5, hp5⟩
      rw [List.length_map] at hp5
      have hsum := sum_le (ltF_short ns' ns'.length)
      have hlen := ltF_len ns' ns'.length
      refine ⟨⟨_, rfl⟩, _, rfl, _, p, _, rfl, rfl, .inl (.of hp5), ?_, kk h0 H5 fun b o e => s5 _ _ (s2 _ _ (s1 _ _ e))⟩
      show (_ : Nat) + _ * 0 ≤ _
      omega
end
end T23

set_option Elab.async false
set_option linter.all false
set_option maxRecDepth 100000
set_option maxHeartbeats 4000000
namespace T23
open PySem L2 EK LamX
def isT (z : Str) : Bool := z.cps.toList.all fun c => decide (c ∈ letS.cps.toList)
def spIsText : Sp := fun vs H Q _ => ∃ z : Str, vs = [.str z] ∧ z.cps.size ≤ 1000 ∧ ∀ H', Same H H' → Q (.bl (isT z)) H'
def spCkText : Sp := fun vs H Q _ => ∃ z : Str, vs = [.str z] ∧ z.cps.size ≤ 1000 ∧ isT z = true ∧ ∀ H', Same H H' → Q .non H'
abbrev qOrd : Str := ("order_of" : Str) ++ ".<locals>." ++ "<lambda>"
def spOrderOf (PT : Addr) : Sp := fun vs H Q _ => ∃ z : Str, vs = [.str z] ∧ z.cps.size ≤ 1000 ∧ isT z = true ∧ Tabs [(PT, qOrd)] H ∧ ∀ p H', ExtN H H' → (∀ b, H' b = none → H b = none) → Tabs [(PT, qOrd)] H' → H' p = some (.tup ((ordM z).map V.int)) → Q (.ref p) H'
def spHas (PT : Addr) : Sp := fun vs H Q _ => ∃ (z : Str) (a : Addr) (ns : List Int), vs = [.str z, .ref a] ∧ z.cps.size ≤ 1000 ∧ isT z = true ∧ H a = some (.tup (ns.map V.int)) ∧ permB ns = true ∧ ns.length ≤ 1000 ∧ Tabs [(PT, qOrd)] H ∧ ∀ H', ExtN H H' → (∀ b, H' b = none → H b = none) → Tabs [(PT, qOrd)] H' → Q (.bl (decide (ordM z = ns))) H'
section
variable {P : Program} {w : World} {K : PySem.W.Frag} {mg : Str → Option Value} {base : Heap}
theorem scIsText : FnScope ["value", "sign"] ["value"] (defScope sIsText) := ⟨rfl, rfl, rfl, by decide +kernel, rfl, by decide +kernel, by decide +kernel⟩
theorem scCkText : FnScope ["text"] ["text"] (defScope sCkText) := ⟨rfl, rfl, rfl, by decide +kernel, rfl, by decide +kernel, by decide +kernel⟩
theorem scOrderOf : FnScope ["text"] ["text"] (defScope sOrderOf) := ⟨rfl, rfl, rfl, by decide +kernel, rfl, by decide +kernel, by decide +kernel⟩
theorem scHas : FnScope ["text", "order"] ["text", "order"] (defScope sHas) := ⟨rfl, rfl, rfl, by decide +kernel, rfl, by decide +kernel, by decide +kernel⟩
theorem ok_isText {f : Addr} {fd : FuncData} (F : Fun K "is_text" "is_text" sIsText f fd) (T : TxtC K mg) : FnOk P w K mg base CX0 1 f fd ["value"] spIsText := by
  refine F.ok scIsText (fun vs H Q E h => ?_) (fun cdv A outer s H vs Q E hr h => ?_)
  · obtain ⟨x, rfl, _⟩ := h
    rfl
  · obtain ⟨z, rfl, hz, k⟩ := h
    have nd := scIsText.nd
    refine ⟨_, (pss_one (ps_ret (pe_and (pe_callB call_isi (by rfl) T.isinstance (by decide +kernel) (pa_cons (pv 0) (pa_cons (pe_bltn (v := .ty "str") rfl T.str (by decide +kernel) rfl) pa_nil))) (pe_one (pe_callB (cr_all rfl) (by rfl) T.all (by decide +kernel) (pa_cons (pe_lc (own := [("sign", 1)]) (g := gName 1) (tt := tYes) rfl nd (pi_str (pv 0)) (blkOk_by (N := ["value", "sign"]) (sc := defScope sIsText) (by decide +kernel)) (fun _ _ _ _ _ => (pg_name (i := 1) nd rfl (Or.inl rfl))) (fun _ _ _ _ _ => pts_nil) (fun _ _ _ _ _ => (pe_cmpR op_in_sign (pv 1) (C8.pe_gc (by rfl) T.letters) (by rfl)))) pa_nil)))))), ?_⟩
    refine ⟨_, rfl, _, _, _, _, true, rfl, .ty _, .base (.str z), kit_ty (by decide +kernel), _, rfl, _, rfl, z, rfl, fun D hD => lc_it (walk_str (z := z)) (fun i H' => Same H H' ∧ H' D = some (.lst (((z.cps.toList.take i).map fun c => decide (c ∈ letS.cps.toList)).map V.bl))) ⟨fun b o e => by rw [upd_ne (ne_of_none e hD)]; exact e, upd_same⟩ (fun _ _ _ _ => trivial) ?_ ?_⟩
    · rintro i y H1 H2 hi ⟨s1, d1⟩ ⟨rfl, c, hc, rfl⟩
      have hc' : z.cps.toList[i]? = some c := by rw [Array.getElem?_toList]; exact hc
      refine ⟨rfl, ?_⟩
      refine ⟨_, rfl, c, _, rfl, rfl, _, d1, ?_, fun b o e => ?_, ?_⟩
      · rw [List.length_map, List.length_map, List.length_take]
        have : sizeLine = 2 ^ 24 := sizeLine_eq
        have hl : z.cps.toList.length = z.cps.size := Array.length_toList
        omega
      · rw [upd_ne (ne_of_none e hD)]
        exact s1 _ _ e
      · rw [upd_same, List.take_succ, hc', List.map_append, List.map_append]
        rfl
    · rintro H1 ⟨s1, d1⟩
      rw [← Array.length_toList, List.take_length] at d1
      refine ⟨D, _, rfl, .of d1, ?_⟩
      have e : ((z.cps.toList.map fun c => decide (c ∈ letS.cps.toList)).all id) = isT z := by
        unfold isT
        rw [List.all_map]
        rfl
      rw [e]
      exact k H1 s1
theorem ok_ckText {f fT : Addr} {fd fdT : FuncData} (F : Fun K "check_text" "check_text" sCkText f fd)
    (GX : FnOk P w K mg base CX0 1 fT fdT ["value"] spIsText) (gX : mg "is_text" = some (.ref fT)) (kX : PySem.W.keepIn K (.ref fT) = true) (bX : Binds K fdT ["value"] []) :
    FnOk P w K mg base CX0 2 f fd ["text"] spCkText := by
  refine F.ok scCkText (fun vs H Q E h => ?_) (fun cdv A outer s H vs Q E hr h => ?_)
  · obtain ⟨z, rfl, _⟩ := h
    rfl
  · obtain ⟨z, rfl, hz, ht, k⟩ := h
    have hr1 : Room 1 _ := hr
    refine ⟨_, pss_one (ps_if (pt_not (pt_val (pe_call GX hr1 rfl gX kX bX .nil pass0 (pa_cons (pv 0) pa_nil)))) (pss_one ps_never) pss_nil), ?_⟩
    refine ⟨_, rfl, z, rfl, hz, fun H1 s1 => ⟨_, rfl, ?_⟩⟩
    rw [ht]
    exact k H1 s1
theorem ok_orderOf {f cO PT fX : Addr} {fdX : FuncData} {dV kV doc pm ct oc : Value} {an od : Option Addr} {osl : Array (Option Value)} (lk : K.lookup f = some ⟨oc, od, .func (PySem.W.fnOf "order_of" "order_of" (defArgs sOrderOf) (defBody sOrderOf) (defScope sOrderOf) dV kV doc pm an (.ref cO) ct), osl⟩) (hcd : PySem.W.codeIn K (.ref cO) "order_of" = true) (TB : TabB base mg cO PT) (T : TxtC K mg)
    (GX : FnOk P w K mg base CX0 2 fX fdX ["text"] spCkText) (gX : mg "check_text" = some (.ref fX)) (kX : PySem.W.keepIn K (.ref fX) = true) (bX : Binds K fdX ["text"] []) :
    FnOk P w K mg base CX0 3 f (PySem.W.fnOf "order_of" "order_of" (defArgs sOrderOf) (defBody sOrderOf) (defScope sOrderOf) dV kV doc pm an (.ref cO) ct) ["text"] (spOrderOf PT) := by
  refine fn_of lk hcd scOrderOf (fun vs H Q E h => ?_) (fun A outer s H vs Q E hr h => ?_)
  · obtain ⟨z, rfl, _⟩ := h
    rfl
  · obtain ⟨z, rfl, hz, ht, hT, k⟩ := h
    have hr2 : Room 2 _ := hr
    refine ⟨_, PSs.nox (pss_cons (ps_expr (pe_call GX hr2 rfl gX kX bX .nil pass0 (pa_cons (pv 0) pa_nil)))
      (pss_one (ps_ret (pe_tupleOf (by rfl) T.tuple (pe_sortSuf (T := [(PT, qOrd)]) (j := 0) (k := 1) rfl hr2 (by rfl) T.sorted (prg_1 (by rfl) T.range (pe_callB call_len_str (by rfl) T.len (by decide +kernel) (pa_cons (pv 0) pa_nil))) TB rfl List.mem_cons_self (fun p hp _ => by rw [List.mem_singleton.mp hp]; rfl) (keySc_by (by decide +kernel)) rfl (NdefX.ndef_free (sc := defScope sOrderOf) (fr := ["text"]) (by decide +kernel)) (fun _ _ _ _ _ _ => rfl) rfl))))), ?_⟩
    refine ⟨_, rfl, z, rfl, hz, ht, fun H1 s1 => ?_⟩
    have hz1 : sizeLine = 2 ^ 24 := sizeLine_eq
    have hzl : z.length = z.cps.size := rfl
    refine ⟨_, rfl, _, rfl, (by rw [hzl]; omega), _, rfl, z, rfl, rfl, rfl, (by rw [hzl]; exact hz), hT.ext s1, fun p H2 e2 mn T2 hp np => ?_⟩
    refine .inl ⟨p, _, rfl, .of hp, fun q nq => ?_⟩
    refine k q _ (fun b o e n => ?_) (fun b e => ?_) (T2.ext fun b o e => ?_) upd_same
    · rw [upd_ne (ne_of_none (e2 _ _ (s1 _ _ e) n) nq)]
      exact e2 _ _ (s1 _ _ e) n
    · have h2 := mn b (NdefX.upd_none e)
      cases hh : H b with
      | none => rfl
      | some o => rw [s1 _ _ hh] at h2; cases h2
    · rw [upd_ne (ne_of_none e nq)]
      exact e
end
end T23

set_option Elab.async false
set_option linter.all false
set_option maxRecDepth 100000
set_option maxHeartbeats 4000000
namespace T23
open PySem L2 EK LamX
def KeepT (H H' : Hp) : Prop := ExtN H H' ∧ ∀ b, H' b = none → H b = none
theorem KeepT.of {H H' : Hp} (s : ∀ b o, H b = some o → H' b = some o) : KeepT H H' := ⟨fun b o e _ => s b o e, fun b e => by
  cases h : H b with
  | none => rfl
  | some o => rw [s _ _ h] at e; cases e⟩
theorem KeepT.trans {H H1 H2 : Hp} (s : KeepT H H1) (t : KeepT H1 H2) : KeepT H H2 := ⟨s.1.trans t.1, fun b e => s.2 b (t.2 b e)⟩
theorem KeepT.tup {H H' : Hp} (s : KeepT H H') {a : Addr} {xs : List V} (h : H a = some (.tup xs)) : H' a = some (.tup xs) := s.1 _ _ h fun _ e => by cases e
theorem KeepT.lst {H H' : Hp} (s : KeepT H H') {a : Addr} {xs : List V} (h : H a = some (.lst xs)) : H' a = some (.lst xs) := s.1 _ _ h fun _ e => by cases e
section
variable {P : Program} {w : World} {K : PySem.W.Frag} {mg : Str → Option Value} {base : Heap} {PT CO fCT fCO fOO : Addr} {fdCT fdCO fdOO : FuncData}
theorem ok_has {f : Addr} {fd : FuncData} (F : Fun K "has_order" "has_order" sHas f fd) (T : TxtC K mg)
    (GCT : FnOk P w K mg base CX0 2 fCT fdCT ["text"] spCkText) (gCT : mg "check_text" = some (.ref fCT)) (kCT : PySem.W.keepIn K (.ref fCT) = true) (bCT : Binds K fdCT ["text"] [])
    (GCO : FnOk P w K mg base (L2.CX P w) 3 fCO fdCO ["order"] (spCkOrd CO)) (gCO : mg "check_order" = some (.ref fCO)) (kCO : PySem.W.keepIn K (.ref fCO) = true) (bCO : Binds K fdCO ["order"] [])
    (GOO : FnOk P w K mg base CX0 3 fOO fdOO ["text"] (spOrderOf PT)) (gOO : mg "order_of" = some (.ref fOO)) (kOO : PySem.W.keepIn K (.ref fOO) = true) (bOO : Binds K fdOO ["text"] []) :
    FnOk P w K mg base (L2.CX P w) 4 f fd ["text", "order"] (spHas PT) := by
  refine F.okX scHas (fun vs H Q E h => ?_) (fun cdv A outer s H vs Q E hr h => ?_)
  · obtain ⟨z, a, ns, rfl, _⟩ := h
    rfl
  · obtain ⟨z, a, ns, rfl, hz, ht, ha, hp, hl, hT, k⟩ := h
    have nd := scHas.nd
    have hr3 : Room 3 _ := hr
    have hr2 : Room 2 _ := hr.mono (by decide)
    have hu : (A.deeper (PyProof.Rows.envOfC "has_order" (defScope sHas) s.heap.objs.size f cdv)).units + 64 < cLine := hr.units
    refine ⟨_, (pss_cons (ps_expr (pe_call GCT hr2 rfl gCT kCT bCT .nil pass0 (pa_cons (pv 0) pa_nil)))
      (pss_cons (ps_expr (pe_call GCO hr3 rfl gCO kCO bCO .nil (passes_call (takes_of rfl rfl rfl rfl) fun _ _ _ _ h => h) (pa_cons (pv 1) pa_nil)))
      (pss_one (ps_ret (pe_cmpR (op_eqD hu) (pe_call GOO hr3 rfl gOO kOO bOO .nil pass0 (pa_cons (pv 0) pa_nil)) (pv 1) (nomark _)))))), ?_⟩
    refine ⟨_, rfl, z, rfl, hz, ht, fun H1 s1 => ?_⟩
    have hO := isO_of (s1 _ _ ha) hp hl
    refine ⟨_, rfl, .ref a, true, rfl, hO, fun H2 s2 => ⟨fun _ => ?_, fun e => (by cases e)⟩⟩
    have hT2 : Tabs [(PT, qOrd)] H2 := hT.ext fun b o e => s2 _ _ (s1 _ _ e)
    refine ⟨_, rfl, z, rfl, hz, ht, hT2, fun p H3 e3 mn T3 hp3 => ?_⟩
    have kt : KeepT H H3 := ((KeepT.of s1).trans (KeepT.of s2)).trans ⟨e3, mn⟩
    have ha3 := kt.tup ha
    refine ⟨_, rfl, tI (ordM z), tI ns, dp_tI (.of hp3), dp_tI (.of ha3), shaped_tI _, shaped_tI _, ?_⟩
    rw [eqv_tI]
    exact k H3 kt.1 kt.2 T3
end
end T23

set_option Elab.async false
set_option linter.all false
set_option maxRecDepth 100000
set_option maxHeartbeats 4000000
namespace T23
open PySem L2 EK LamX
theorem erase_map {α β : Type} (f : α → β) : ∀ (l : List α) (j : Nat), (l.map f).eraseIdx j = (l.eraseIdx j).map f
  | [], _ => rfl
  | a :: l, 0 => rfl
  | a :: l, j + 1 => by
    show f a :: (l.map f).eraseIdx j = f a :: (l.eraseIdx j).map f
    rw [erase_map f l j]
theorem erase_perm {α : Type} : ∀ (l : List α) (j : Nat) (h : j < l.length), (l[j] :: l.eraseIdx j).Perm l
  | a :: l, 0, _ => .refl _
  | a :: l, j + 1, h => by
    show (l[j]'(Nat.lt_of_succ_lt_succ h) :: a :: l.eraseIdx j).Perm (a :: l)
    exact (List.Perm.swap _ _ _).trans ((erase_perm l j (Nat.lt_of_succ_lt_succ h)).cons a)
def spShuffled : Sp := fun vs H Q _ => ∃ (a : Addr) (n : Int) (m : Nat), vs = [.ref a, .int m] ∧ UrnAt H a n ∧ n ≤ 900000 ∧ m ≤ 100 ∧ ∀ p ns H', permB ns = true → ns.length = m → H' p = some (.tup (ns.map V.int)) → UrnAt H' a (n + 100) → KeepB a H H' → Q (.ref p) H'
abbrev NSH : List Str := ["_law_urn_here", "_law_size", "_law_left", "_law_found", "_law_turn", "_law_k"]
section
variable {P : Program} {w : World} {K : PySem.W.Frag} {mg : Str → Option Value} {base : Heap}
theorem scShuf : FnScope NSH ["_law_urn_here", "_law_size"] (defScope sShuffled) := ⟨rfl, rfl, rfl, by decide +kernel, rfl, by decide +kernel, by decide +kernel⟩
theorem ok_shuf {f fP : Addr} {fd fdP : FuncData} (F : Fun K "_law_shuffled" "_law_shuffled" sShuffled f fd) (T : TxtC K mg)
    (GP : FnOk P w K mg base CX0 1 fP fdP ["_law_urn_here", "_law_many"] spPull) (gP : mg "_law_pull" = some (.ref fP)) (kP : PySem.W.keepIn K (.ref fP) = true) (bP : Binds K fdP ["_law_urn_here", "_law_many"] []) :
    FnOk P w K mg base CX0 2 f fd ["_law_urn_here", "_law_size"] spShuffled := by
  refine F.ok scShuf (fun vs H Q E h => ?_) (fun cdv A outer s H vs Q E hr h => ?_)
  · obtain ⟨a, n, m, rfl, _⟩ := h
    rfl
  · obtain ⟨a, n, m, rfl, hw, hn, hm, k⟩ := h
    have nd := scShuf.nd
    have hr1 : Room 1 _ := hr
    have hz : sizeLine = 2 ^ 24 := sizeLine_eq
    refine ⟨_, (pss_cons (ps_par (i := 2) (j := 3) (by rfl) nd rfl rfl (by decide) rfl rfl (pa_cons (pe_lc (own := [("_law_k", 5)]) (g := gName 5) (tt := tYes) rfl nd (pi_range1 (by rfl) T.range (pa_cons (pv 1) pa_nil)) (blkOk_by (N := NSH) (sc := defScope sShuffled) (by decide +kernel)) (fun _ _ _ _ _ => (pg_name (i := 5) nd rfl (Or.inl rfl))) (fun _ _ _ _ _ => pts_nil) (fun _ _ _ _ _ => (pv 5))) (pa_cons (pe_lst pa_nil) pa_nil)) (by rfl))
      (pss_cons (ps_for PassesOwn.never rfl (pi_range1 (by rfl) T.range (pa_cons (pv 1) pa_nil)) (pg_name (i := 4) nd rfl (Or.inl rfl)) (pss_one (ps_expr (pe_bm PySem.F.plainAttrs_list PySem.F.slot_list_append PySem.F.type_list_append mt_append (pv 3) (pa_cons (pe_bm PySem.F.plainAttrs_list PySem.F.slot_list_pop PySem.F.type_list_pop mt_popAt (pv 2) (pa_cons (pe_call GP hr1 rfl gP kP bP .nil pass0 (pa_cons (pv 0) (pa_cons (pe_callB call_len_seq (by rfl) T.len (by decide +kernel) (pa_cons (pv 2) pa_nil)) pa_nil))) pa_nil)) pa_nil)))))
      (pss_one (ps_ret (pe_callTy call_tuple_of (by rfl) T.tuple (by decide +kernel) (pa_cons (pv 3) pa_nil)))))), ?_⟩
    refine ⟨_, rfl, _, rfl, by omega, by omega, fun D nD => ?_⟩
    rw [show ((m : Nat) : Int).toNat = m by omega]
    refine lcM_range (R' := RInt) (n := m) (fun _ => true) (fun k => (0 : Int) + (k : Nat)) nD rint_keep (by omega) ?_ ?_
    · intro j H1 C C0 hj s1 c1 c0
      exact ⟨rfl, _, rfl, c1 rfl _ _ (fun _ _ e => e) rfl⟩
    intro ys H1 s1 hD hy
    rw [List.filter_eq_self.mpr fun _ _ => rfl] at hy
    have ey := rint_map hy
    rw [ey] at hD
    refine ⟨(by show 0 ≤ sizeLine; decide), fun pf zf => ?_⟩
    obtain ⟨H2, e2, S2, A2⟩ := alloc (o := .lst []) zf
    rw [e2]
    refine ⟨_, _, rfl, ?_⟩
    have hw2 : UrnAt H2 a n := hw.keep fun o e => S2 _ _ (s1 _ _ e)
    have hDa : D ≠ a := UrnAt.ne0 hw nD
    have hfa : pf ≠ a := UrnAt.ne0 (hw.keep fun o e => s1 _ _ e) zf
    have hfD : pf ≠ D := fun e => by rw [e, hD] at zf; cases zf
    have nf : H pf = none := by
      cases hh : H pf with
      | none => rfl
      | some o => rw [s1 _ _ hh] at zf; cases zf
    refine ⟨_, rfl, _, rfl, by omega, by omega, ?_⟩
    rw [show ((m : Nat) : Int).toNat = m by omega]
    refine for_range (lo := 0) (n := m) (fun i σ H' => ∃ (v4 : Option V) (left found : List Int), σ = [some (.ref a), some (.int m), some (.ref D), some (.ref pf), v4, none] ∧ UrnAt H' a (n + (i : Nat)) ∧ (∀ b o, H b = some o → b ≠ a → H' b = some o) ∧ H' D = some (.lst (left.map V.int)) ∧ H' pf = some (.lst (found.map V.int)) ∧ (found ++ left).Perm (rangeI m) ∧ found.length = i ∧ left.length + i = m) ⟨none, rangeI m, [], rfl, hw2.mono (by omega), fun b o e _ => S2 _ _ (s1 _ _ e), S2 _ _ hD, A2, .refl _, rfl, by rw [rangeI_len]; rfl⟩ ?_ ?_
    · rintro i σ H3 hi ⟨v4, left, found, rfl, hw3, hk3, hD3, hf3, hp, hfl, hll⟩
      refine ⟨_, rfl, .inl ⟨rfl, _, .of hf3⟩, _, rfl, .inl ⟨rfl, _, .of hD3⟩, _, rfl, _, rfl, D, _, rfl, .inl (.of hD3), a, _, _, rfl, hw3, by omega, by rw [List.length_map]; omega, by rw [List.length_map]; omega, fun d H4 d0 d1 hw4 hk4 => ?_⟩
      rw [List.length_map] at d1
      obtain ⟨j, rfl⟩ : ∃ j : Nat, d = (j : Int) := ⟨d.toNat, by omega⟩
      have hjl : j < left.length := by omega
      have hD4 := hk4 _ _ hD3 hDa
      have hf4 := hk4 _ _ hf3 hfa
      have hix : seqIndex? ((j : Nat) : Int) (left.map V.int).length = some j := by
        have := (ixN_seq (ixN_int (n := (left.map V.int).length) (k := ((j : Nat) : Int)) (by omega) (by rw [List.length_map]; omega))).1
        rwa [Int.toNat_natCast] at this
      refine ⟨D, _, _, j, .int left[j], rfl, rfl, hD4, by omega, by omega, hix, by rw [List.getElem?_map, List.getElem?_eq_getElem hjl]; rfl, ?_⟩
      refine ⟨pf, _, _, rfl, rfl, (by rw [upd_ne hfD]; exact hf4), by rw [List.length_map]; omega, ?_⟩
      refine ⟨_, left.eraseIdx j, found ++ [left[j]], rfl, ?_, fun b o e hb => ?_, ?_, ?_, ?_, ?_, ?_⟩
      · exact (hw4.keep fun o e => by rw [upd_ne (Ne.symm hfa), upd_ne (Ne.symm hDa)]; exact e).mono (by omega)
      · rw [upd_ne (ne_of_none e nf), upd_ne (ne_of_none e nD)]
        exact hk4 _ _ (hk3 _ _ e hb) hb
      · rw [upd_ne (Ne.symm hfD), upd_same, erase_map]
      · rw [upd_same, List.map_append]; rfl
      · refine List.Perm.trans ?_ hp
        rw [List.append_assoc]
        exact (erase_perm left j hjl).append_left found
      · rw [List.length_append, hfl]; rfl
      · rw [List.length_eraseIdx_of_lt hjl]; omega
    · rintro σ H3 ⟨v4, left, found, rfl, hw3, hk3, hD3, hf3, hp, hfl, hll⟩
      have hl0 : left = [] := List.length_eq_zero_iff.mp (by omega)
      subst hl0
      rw [List.append_nil] at hp
      have hlen : found.length = m := by omega
      have hperm : permB found = true := by
        unfold permB
        rw [hlen]
        refine decide_eq_true (sort_is (hp.symm) ?_).symm
        unfold rangeI
        rw [List.pairwise_map]
        exact List.pairwise_lt_range.imp fun h => by omega
      refine ⟨_, rfl, pf, _, rfl, .inl ⟨.of hf3, fun p4 z4 => ?_⟩⟩
      obtain ⟨H4, e4, S4, A4⟩ := alloc (o := .tup (found.map V.int)) z4
      rw [e4]
      exact k p4 found H4 hperm hlen A4 ((hw3.keep fun o e => S4 _ _ e).mono (by omega)) fun b o e hb => S4 _ _ (hk3 _ _ e hb)
end
end T23

set_option Elab.async false
set_option linter.all false
set_option maxRecDepth 100000
set_option maxHeartbeats 4000000
/-! CombMath: comb as Pascal's numbers; numbers of sums of so many parts, none of them great. -/
namespace L2
open PySem
/-- Pascal's numbers -/
def ch : Nat → Nat → Nat
  | _, 0 => 1
  | 0, _ + 1 => 0
  | n + 1, k + 1 => ch n k + ch n (k + 1)
def fct : Nat → Nat
  | 0 => 1
  | n + 1 => (n + 1) * fct n
theorem fct_pos : ∀ n, 0 < fct n
  | 0 => Nat.one_pos
  | n + 1 => Nat.mul_pos (Nat.succ_pos n) (fct_pos n)
theorem ch_zero (n : Nat) : ch n 0 = 1 := by cases n <;> rfl
theorem ch_self : ∀ n, ch n n = 1 ∧ ∀ k, n < k → ch n k = 0
  | 0 => ⟨rfl, fun k h => by cases k with
    | zero => omega
    | succ k => rfl⟩
  | n + 1 => by
    obtain ⟨h1, h2⟩ := ch_self n
    refine ⟨by rw [ch, h1, h2 _ (Nat.lt_succ_self n)], fun k h => ?_⟩
    cases k with
    | zero => omega
    | succ k => rw [ch, h2 k (by omega), h2 (k + 1) (by omega)]
theorem fp_front (n : Nat) : ∀ k : Nat, Builtin.Math.fallingProduct ((n + 1 : Nat) : Int) (k + 1) = ((n + 1 : Nat) : Int) * Builtin.Math.fallingProduct (n : Int) k
  | 0 => by rw [PySem.W.mc_fp_one, PySem.W.mc_fp_zero, Int.mul_one]
  | k + 1 => by
    rw [PySem.W.mc_fp_succ, fp_front n k, PySem.W.mc_fp_succ (n : Int) k, Int.mul_assoc]
    congr 2
    omega
theorem ch_fp : ∀ n k : Nat, Builtin.Math.fallingProduct (n : Int) k = ((ch n k * fct k : Nat) : Int)
  | n, 0 => by rw [PySem.W.mc_fp_zero, ch_zero]; rfl
  | 0, k + 1 => by
    rw [PySem.W.mc_fp_succ, ch_fp 0 k]
    cases k with
    | zero => rw [ch_zero]; rfl
    | succ k =>
      show ((0 * _ : Nat) : Int) * _ = ((0 * _ : Nat) : Int)
      rw [Nat.zero_mul, Nat.zero_mul]
      exact Int.zero_mul _
  | n + 1, k + 1 => by
    have h1 := ch_fp n k
    have h2 := ch_fp n (k + 1)
    rw [PySem.W.mc_fp_succ, h1] at h2
    rw [fp_front, h1]
    have e : ((ch (n + 1) (k + 1) * fct (k + 1) : Nat) : Int) = ((ch n k * fct k : Nat) : Int) * ((k + 1 : Nat) : Int) + ((ch n (k + 1) * fct (k + 1) : Nat) : Int) := by
      rw [← Int.natCast_mul, ← Int.natCast_add]
      congr 1
      rw [ch, Nat.add_mul, fct, Nat.mul_comm (k + 1) (fct k), ← Nat.mul_assoc (ch n k)]
    rw [e, ← h2, ← Int.mul_add, Int.mul_comm]
    congr 1
    omega
theorem ch_fct {n : Nat} : ∀ {k : Nat}, k ≤ n → ch n k * fct k * fct (n - k) = fct n := by
  intro k h
  have g : ∀ k, k ≤ n → Builtin.Math.fallingProduct (n : Int) k * ((fct (n - k) : Nat) : Int) = ((fct n : Nat) : Int) := by
    intro k
    induction k with
    | zero => intro _; rw [PySem.W.mc_fp_zero, Int.one_mul]; rfl
    | succ k ih =>
      intro hk
      rw [PySem.W.mc_fp_succ, ← ih (by omega), Int.mul_assoc]
      congr 1
      have e : n - k = (n - (k + 1)) + 1 := by omega
      rw [e, fct, Int.natCast_mul]
      congr 1
      omega
  have := g k h
  rw [ch_fp, ← Int.natCast_mul] at this
  exact Int.ofNat.inj this
theorem ch_symm {n k : Nat} (h : k ≤ n) : ch n (n - k) = ch n k := by
  have h1 := ch_fct h
  have h2 := ch_fct (show n - k ≤ n by omega)
  rw [show n - (n - k) = k by omega] at h2
  have e : ch n (n - k) * (fct (n - k) * fct k) = ch n k * (fct (n - k) * fct k) := by
    rw [← Nat.mul_assoc, h2, ← h1, Nat.mul_comm (fct (n - k)), Nat.mul_assoc]
  exact Nat.eq_of_mul_eq_mul_right (Nat.mul_pos (fct_pos _) (fct_pos _)) e
theorem comb_ch {n k : Nat} (h : k ≤ n) : PySem.W.mcComb (n : Int) (k : Int) = ((ch n k : Nat) : Int) := by
  have gen : ∀ m : Nat, m ≤ n → Builtin.Math.fallingProduct (n : Int) m / Builtin.Math.fallingProduct (m : Int) m = ((ch n m : Nat) : Int) := fun m hm => by
    rw [ch_fp, ch_fp, (ch_self m).1, Nat.one_mul, Int.natCast_mul]
    exact Int.mul_ediv_cancel _ (by have := fct_pos m; omega)
  by_cases hk : k ≤ n - k
  · rw [PySem.W.mcComb_at (m := (k : Int)) (by omega) (by omega) (by omega), Int.toNat_natCast, gen k h]
  · rw [PySem.W.mcComb_at (m := ((n - k : Nat) : Int)) (by omega) (by omega) (by omega), Int.toNat_natCast, gen (n - k) (by omega), ch_symm h]
/-! sums of so many parts, each at least 1 and at most m -/
def sumN (f : Nat → Int) : Nat → Int
  | 0 => 0
  | k + 1 => sumN f k + f k
def cmp (m : Nat) : Nat → Nat → Int
  | 0, k => if k = 0 then 1 else 0
  | t + 1, k => sumN (cmp m t) k - sumN (cmp m t) (k - m)
theorem sumN_zero {f : Nat → Int} {b : Nat} (h : ∀ i, b ≤ i → f i = 0) : ∀ n, sumN f (b + n) = sumN f b
  | 0 => rfl
  | n + 1 => by
    show sumN f (b + n) + f (b + n) = _
    rw [sumN_zero h n, h _ (by omega), Int.add_zero]
theorem cmp_zero (m : Nat) : ∀ t k, t * m < k → cmp m t k = 0
  | 0, k, h => if_neg (by omega)
  | t + 1, k, h => by
    have e : (t + 1) * m = t * m + m := Nat.succ_mul t m
    show sumN _ k - sumN _ (k - m) = 0
    have z := fun n => sumN_zero (f := cmp m t) (b := t * m + 1) (fun i hi => cmp_zero m t i (by omega)) n
    have h1 := z (k - (t * m + 1))
    have h2 := z (k - m - (t * m + 1))
    rw [show t * m + 1 + (k - (t * m + 1)) = k by omega] at h1
    rw [show t * m + 1 + (k - m - (t * m + 1)) = k - m by omega] at h2
    rw [h1, h2, Int.sub_self]
theorem cmp_ch (m : Nat) : ∀ t d, d < m → cmp m (t + 1) ((t + 1) * m - d) = ((ch (d + t) t : Nat) : Int)
  | 0, d, h => by
    have one : ∀ n, sumN (cmp m 0) (n + 1) = 1 := fun n => by
      induction n with
      | zero => rfl
      | succ n ih =>
        show sumN (cmp m 0) (n + 1) + cmp m 0 (n + 1) = 1
        rw [ih]
        rfl
    show sumN _ ((0 + 1) * m - d) - sumN _ ((0 + 1) * m - d - m) = _
    rw [show (0 + 1) * m - d = (m - d - 1) + 1 by omega, one, show m - d - 1 + 1 - m = 0 by omega, ch_zero]
    rfl
  | t + 1, d, h => by
    have e : (t + 1 + 1) * m = (t + 1) * m + m := Nat.succ_mul (t + 1) m
    have e0 : (t + 1) * m = t * m + m := Nat.succ_mul t m
    have acc : ∀ d, d < m → sumN (cmp m (t + 1)) ((t + 1) * m + 1) - sumN (cmp m (t + 1)) ((t + 1) * m - d) = ((ch (d + t + 1) (t + 1) : Nat) : Int) := by
      intro d
      induction d with
      | zero =>
        intro h
        have := cmp_ch m t 0 h
        rw [Nat.sub_zero, Nat.zero_add, (ch_self t).1] at this
        show sumN _ ((t + 1) * m) + cmp m (t + 1) ((t + 1) * m) - sumN _ ((t + 1) * m - 0) = _
        rw [Nat.sub_zero, this, Nat.zero_add, (ch_self (t + 1)).1]
        omega
      | succ d ih =>
        intro h
        have h1 := ih (by omega)
        have h2 := cmp_ch m t (d + 1) h
        have e3 : (t + 1) * m - d = ((t + 1) * m - (d + 1)) + 1 := by omega
        rw [e3] at h1
        have e4 : sumN (cmp m (t + 1)) (((t + 1) * m - (d + 1)) + 1) = sumN (cmp m (t + 1)) ((t + 1) * m - (d + 1)) + cmp m (t + 1) ((t + 1) * m - (d + 1)) := rfl
        rw [e4, h2] at h1
        have e5 : ch (d + 1 + t + 1) (t + 1) = ch (d + 1 + t) t + ch (d + 1 + t) (t + 1) := rfl
        have e6 : ch (d + t + 1) (t + 1) = ch (d + 1 + t) (t + 1) := by rw [show d + t + 1 = d + 1 + t by omega]
        rw [e6] at h1
        omega
    have h1 := acc d h
    have z := sumN_zero (f := cmp m (t + 1)) (b := (t + 1) * m + 1) (fun i hi => cmp_zero m (t + 1) i (by omega)) ((t + 1 + 1) * m - d - ((t + 1) * m + 1))
    rw [show (t + 1) * m + 1 + ((t + 1 + 1) * m - d - ((t + 1) * m + 1)) = (t + 1 + 1) * m - d by omega] at z
    show sumN _ ((t + 1 + 1) * m - d) - sumN _ ((t + 1 + 1) * m - d - m) = _
    rw [z, show (t + 1 + 1) * m - d - m = (t + 1) * m - d by omega, h1]
    rw [show d + (t + 1) = d + t + 1 by omega]
end L2

set_option Elab.async false
set_option linter.all false
set_option maxRecDepth 100000
set_option maxHeartbeats 4000000
namespace T23
open PySem L2 EK LamX
def wAt (t j k : Nat) : Nat := if k ≤ j then ch (k + t + 1) (t + 1) else ch (k + t) t
def rowW (more t j : Nat) : List Int := (List.range (more + 1)).map fun k => ((wAt t j k : Nat) : Int)
theorem rowW_len (more t j : Nat) : (rowW more t j).length = more + 1 := by rw [rowW, List.length_map, List.length_range]
theorem rowW_get {more t j k : Nat} (h : k ≤ more) : ((rowW more t j).map V.int)[k]? = some (V.int ((wAt t j k : Nat) : Int)) := by
  rw [rowW, List.getElem?_map, List.getElem?_map, List.getElem?_range (by omega)]
  rfl
theorem rowW_el {more t j k : Nat} (h : k < (rowW more t j).length) : (rowW more t j)[k] = ((wAt t j k : Nat) : Int) := by
  simp only [rowW, List.getElem_map, List.getElem_range]
theorem rowW_start (more : Nat) : List.replicate (more + 1) (1 : Int) = rowW more 0 0 := by
  refine List.ext_getElem (by rw [List.length_replicate, rowW_len]) fun k h1 h2 => ?_
  rw [List.getElem_replicate, rowW_el]
  unfold wAt
  split
  · rw [show k = 0 by omega]; rfl
  · rw [ch_zero]; rfl
theorem rowW_next (more t : Nat) : rowW more t more = rowW more (t + 1) 0 := by
  unfold rowW
  refine List.map_congr_left fun k hk => ?_
  have hk := List.mem_range.mp hk
  unfold wAt
  rw [if_pos (by omega)]
  split
  · rw [show k = 0 by omega, show 0 + t + 1 = t + 1 by omega, show 0 + (t + 1) + 1 = t + 1 + 1 by omega, (ch_self (t + 1)).1, (ch_self (t + 1 + 1)).1]
  · rw [show k + (t + 1) = k + t + 1 by omega]
theorem rowW_step {more t j : Nat} (h : j + 1 ≤ more) : (rowW more t j).set (j + 1) (((wAt t j (j + 1) : Nat) : Int) + ((wAt t j j : Nat) : Int)) = rowW more t (j + 1) := by
  refine List.ext_getElem (by rw [List.length_set, rowW_len, rowW_len]) fun k h1 h2 => ?_
  rw [List.getElem_set]
  rw [rowW_el, rowW_el]
  by_cases hk : j + 1 = k
  · rw [if_pos hk]
    subst hk
    unfold wAt
    rw [if_neg (by omega), if_pos (Nat.le_refl _), if_pos (Nat.le_refl _)]
    have e : ch (j + 1 + t + 1) (t + 1) = ch (j + 1 + t) t + ch (j + 1 + t) (t + 1) := rfl
    rw [e, show j + t + 1 = j + 1 + t by omega]
    omega
  · rw [if_neg hk]
    unfold wAt
    by_cases h3 : k ≤ j
    · rw [if_pos h3, if_pos (by omega)]
    · rw [if_neg h3, if_neg (by omega)]
abbrev NWA : List Str := ["_law_size", "_law_more", "_law_row", "_law_turn", "_law_k"]
def spWays : Sp := fun vs H Q _ => ∃ n m : Nat, vs = [.int n, .int m] ∧ n ≤ 400 ∧ m ≤ 400 ∧ ∀ H', Same H H' → Q (.int ((ch (m + n) n : Nat) : Int)) H'
section
variable {P : Program} {w : World} {K : PySem.W.Frag} {mg : Str → Option Value} {base : Heap}
theorem scWays : FnScope NWA ["_law_size", "_law_more"] (defScope sWays) := ⟨rfl, rfl, rfl, by decide +kernel, rfl, by decide +kernel, by decide +kernel⟩
theorem ok_ways {f : Addr} {fd : FuncData} (F : Fun K "_law_ways" "_law_ways" sWays f fd) (T : TxtC K mg) : FnOk P w K mg base CX0 1 f fd ["_law_size", "_law_more"] spWays := by
  refine F.ok scWays (fun vs H Q E h => ?_) (fun cdv A outer s H vs Q E hr h => ?_)
  · obtain ⟨n, m, rfl, _⟩ := h
    rfl
  · obtain ⟨n, m, rfl, h1, h2, k⟩ := h
    have nd := scWays.nd
    have hz : sizeLine = 2 ^ 24 := sizeLine_eq
    refine ⟨_, (pss_cons (ps_set (i := 2) nd rfl (Or.inl rfl) (pe_op op_rep (pe_lst (pa_cons pe_int pa_nil)) (pe_op op_add (pv 1) pe_int)))
      (pss_cons (ps_for PassesOwn.never rfl (pi_range1 (by rfl) T.range (pa_cons (pv 0) pa_nil)) (pg_name (i := 3) nd rfl (Or.inl rfl)) (pss_one (ps_for PassesOwn.never rfl (pi_range2 (by rfl) T.range (pa_cons pe_int (pa_cons (pe_op op_add (pv 1) pe_int) pa_nil))) (pg_name (i := 4) nd rfl (Or.inl rfl)) (pss_one (ps_asg (pe_op op_add (pe_ix ix_list (pv 2) (pv 4) (fun _ _ => rfl)) (pe_ix ix_list (pv 2) (pe_op op_sub (pv 4) pe_int) (fun _ _ => rfl))) (pg_sub (pv 2) (pv 4) set_list))))))
      (pss_one (ps_ret (pe_ix ix_list (pv 2) (pv 1) (fun _ _ => rfl)))))), ?_⟩
    refine ⟨(by show 1 ≤ sizeLine; decide), fun p0 z0 => ?_⟩
    obtain ⟨H0, e0, S0, A0⟩ := alloc (o := .lst [.int 1]) z0
    rw [e0]
    refine ⟨_, rfl, _, _, rfl, rfl, p0, _, _, rfl, rfl, A0, by omega, by omega, by show 1 * _ ≤ _; omega, fun p z1 => ?_⟩
    have er : (List.replicate ((m : Int) + 1).toNat [V.int 1]).flatten = (rowW m 0 0).map V.int := by
      rw [List.flatten_replicate_singleton, ← rowW_start, List.map_replicate, show ((m : Int) + 1).toNat = m + 1 by omega]
    rw [er]
    obtain ⟨H1, e1, S1, A1⟩ := alloc (o := .lst ((rowW m 0 0).map V.int)) z1
    rw [e1]
    have hp : H p = none := by
      cases hh : H p with
      | none => rfl
      | some o => rw [S0 _ _ hh] at z1; cases z1
    refine ⟨_, rfl, _, rfl, by omega, by omega, ?_⟩
    rw [Int.toNat_natCast]
    refine for_range (lo := 0) (n := n) (fun i σ H' => ∃ v3 v4 : Option V, σ = [some (.int n), some (.int m), some (.ref p), v3, v4] ∧ Same H H' ∧ H' p = some (.lst ((rowW m i 0).map V.int))) ⟨none, none, rfl, S0.trans S1, A1⟩ ?_ ?_
    · rintro i σ H2 hi ⟨v3, v4, rfl, s2, A2⟩
      refine ⟨_, rfl, _, _, rfl, rfl, _, _, rfl, ⟨by omega, by omega, by omega, by omega⟩, ?_⟩
      rw [show ((m : Int) + 1 - 1).toNat = m by omega]
      refine for_range (lo := 1) (n := m) (fun j σ H' => ∃ v4 : Option V, σ = [some (.int n), some (.int m), some (.ref p), some (.int ((0 : Int) + (i : Nat))), v4] ∧ Same H H' ∧ H' p = some (.lst ((rowW m i j).map V.int))) ⟨v4, rfl, s2, A2⟩ ?_ ?_
      · rintro j σ H3 hj ⟨v4, rfl, s3, A3⟩
        have ej : (1 : Int) + (j : Nat) = ((j + 1 : Nat) : Int) := by omega
        have ej2 : (1 : Int) + (j : Nat) - 1 = ((j : Nat) : Int) := by omega
        refine ⟨_, rfl, _, rfl, p, _, _, _, rfl, rfl, .of A3, (by rw [ej]; exact atI_nat (rowW_get (by omega))), _, rfl, _, rfl, _, _, rfl, rfl, p, _, _, _, rfl, rfl, .of A3, (by rw [ej2]; exact atI_nat (rowW_get (by omega))), _, _, rfl, rfl, ?_⟩
        refine ⟨_, rfl, _, rfl, p, _, _, j + 1, rfl, rfl, A3, (by rw [ej]; exact ixN_int (by omega) (by rw [List.length_map, rowW_len]; omega)), ?_⟩
        refine ⟨_, rfl, fun b o e => ?_, ?_⟩
        · rw [upd_ne (ne_of_none e hp)]
          exact s3 _ _ e
        · rw [upd_same, ← List.map_set, rowW_step (by omega)]
      · rintro σ H3 ⟨v4, rfl, s3, A3⟩
        rw [rowW_next] at A3
        exact ⟨_, _, rfl, s3, A3⟩
    · rintro σ H2 ⟨v3, v4, rfl, s2, A2⟩
      refine ⟨_, rfl, _, rfl, p, _, _, _, rfl, rfl, .of A2, atI_nat (rowW_get (Nat.le_refl _)), ?_⟩
      have e : wAt n 0 m = ch (m + n) n := by
        unfold wAt
        split
        · rw [show m = 0 by omega, show 0 + n + 1 = n + 1 by omega, show 0 + n = n by omega, (ch_self (n + 1)).1, (ch_self n).1]
        · rfl
      rw [e]
      exact k H2 s2
end
end T23

set_option Elab.async false
set_option linter.all false
set_option maxRecDepth 100000
set_option maxHeartbeats 4000000
namespace T23
open PySem L2 EK LamX
/-- which place the numbers have, as pairs -/
def enK (b : Nat) : List Int → List (Key × V)
  | [] => []
  | n :: r => (Sum.inl n, V.int ((b : Nat) : Int)) :: enK (b + 1) r
theorem enK_len (b : Nat) : ∀ ns : List Int, (enK b ns).length = ns.length
  | [] => rfl
  | n :: r => by rw [enK, List.length_cons, List.length_cons, enK_len (b + 1) r]
theorem enK_snoc (b : Nat) : ∀ (ns : List Int) (n : Int), enK b (ns ++ [n]) = enK b ns ++ [(Sum.inl n, V.int ((b + ns.length : Nat) : Int))]
  | [], n => rfl
  | m :: r, n => by
    show _ :: enK (b + 1) (r ++ [n]) = _
    rw [enK_snoc (b + 1) r n, List.length_cons, show b + 1 + r.length = b + (r.length + 1) by omega]
    rfl
theorem enK_none (b : Nat) {n : Int} : ∀ {ns : List Int}, n ∉ ns → valV (enK b ns) (Sum.inl n) = none
  | [], _ => rfl
  | m :: r, h => by
    have h1 : ¬ (m = n) := fun e => h (by rw [e]; exact List.mem_cons_self)
    have ih := enK_none (b + 1) (ns := r) (fun w => h (List.mem_cons_of_mem _ w))
    unfold valV at ih ⊢
    rw [enK, List.find?_cons_of_neg (by simpa using h1)]
    exact ih
theorem enK_at : ∀ (b : Nat) {ns : List Int}, ns.Nodup → ∀ {i : Nat} (hi : i < ns.length), valV (enK b ns) (Sum.inl ns[i]) = some (V.int ((b + i : Nat) : Int))
  | b, m :: r, nd, 0, _ => by
    unfold valV
    rw [enK, List.find?_cons_of_pos (by simp)]
    rfl
  | b, m :: r, nd, i + 1, hi => by
    have h1 : ¬ (m = r[i]'(Nat.lt_of_succ_lt_succ hi)) := fun e => (List.nodup_cons.mp nd).1 (by rw [e]; exact List.getElem_mem _)
    have ih := enK_at (b + 1) (List.nodup_cons.mp nd).2 (Nat.lt_of_succ_lt_succ hi)
    rw [show b + (i + 1) = b + 1 + i by omega, ← ih]
    show valV ((Sum.inl m, _) :: enK (b + 1) r) (Sum.inl (r[i]'_)) = _
    unfold valV
    rw [List.find?_cons_of_neg (by simpa using h1)]
theorem merge_enK {ns : List Int} (nd : ns.Nodup) : mergeK [] (enK 0 ns) = enK 0 ns := by
  have gen : ∀ (m : Nat), m ≤ ns.length → mergeK [] (enK 0 (ns.take m)) = enK 0 (ns.take m) := by
    intro m
    induction m with
    | zero => intro _; rfl
    | succ m ih =>
      intro hm
      have e : ns.take (m + 1) = ns.take m ++ [ns[m]'(by omega)] := by
        rw [List.take_succ, List.getElem?_eq_getElem (by omega)]
        rfl
      rw [e, enK_snoc]
      have e2 : ∀ (x : Key × V), mergeK [] (enK 0 (ns.take m) ++ [x]) = putK (mergeK [] (enK 0 (ns.take m))) x.1 x.2 := fun x => by
        unfold mergeK
        rw [List.foldl_append]
        rfl
      rw [e2, ih (by omega)]
      refine putK_new _ (enK_none 0 fun w => ?_)
      have h2 : (ns.take m ++ [ns[m]'(by omega)]).Nodup := by
        rw [← e]
        exact nd.sublist (List.take_sublist _ _)
      exact (List.nodup_append.mp h2).2.2 _ w _ (List.mem_singleton.mpr rfl) rfl
  have := gen ns.length (Nat.le_refl _)
  rw [List.take_length] at this
  exact this
/-- the table of places, with the end -/
def latK (ns : List Int) : List (Key × V) := putK (enK 0 ns) (Sum.inl ((ns.length : Nat) : Int)) (.int (-1))
theorem lat_at {ns : List Int} (h : permB ns = true) {p : Nat} (hp : p ≤ ns.length) : valV (latK ns) (Sum.inl ((p : Nat) : Int)) = some (.int (rk ns p)) := by
  unfold latK
  rw [valV_put]
  by_cases e : p = ns.length
  · rw [if_pos (by rw [e]), e, rk_end]
  · have hlt : p < ns.length := by omega
    rw [if_neg (fun w => e (by injection w with w; omega))]
    obtain ⟨i, hi, hs⟩ := sig_sur h hlt
    have h1 := (ns_at h hi).1
    rw [hs] at h1
    have h2 := enK_at 0 (nodup_of h) hi
    rw [h1, Nat.zero_add] at h2
    rw [h2, ← hs, rk_sig h hi]
theorem ix_tupK {X : Cx} {K : PySem.W.Frag} (h : X.K = K := by rfl) : IxR X (rIxT K) := by subst h; exact ix_tup
abbrev NFA : List Str := ["_law_order", "_law_later", "_law_k", "_law_place"]
def spFalls : Sp := fun vs H Q _ => ∃ (a : Addr) (ns : List Int), vs = [.ref a] ∧ H a = some (.tup (ns.map V.int)) ∧ permB ns = true ∧ ns.length ≤ 400 ∧ ∀ p H', H p = none → Same H H' → H' p = some (.lst ((dropsM ns).map V.int)) → Q (.ref p) H'
section
variable {P : Program} {w : World} {K : PySem.W.Frag} {mg : Str → Option Value} {base : Heap}
theorem scFalls : FnScope NFA ["_law_order"] (defScope sFalls) := ⟨rfl, rfl, rfl, by decide +kernel, rfl, by decide +kernel, by decide +kernel⟩
theorem ok_falls {f : Addr} {fd : FuncData} (F : Fun K "_law_falls" "_law_falls" sFalls f fd) (T : TxtC K mg) : FnOk P w K mg base CX0 1 f fd ["_law_order"] spFalls := by
  refine F.ok scFalls (fun vs H Q E h => ?_) (fun cdv A outer s H vs Q E hr h => ?_)
  · obtain ⟨a, ns, rfl, _⟩ := h
    rfl
  · obtain ⟨a, ns, rfl, ha, hp, hl, k⟩ := h
    have nd := scFalls.nd
    have hz : sizeLine = 2 ^ 24 := sizeLine_eq
    have hu : (A.deeper (PyProof.Rows.envOfC "_law_falls" (defScope sFalls) s.heap.objs.size f cdv)).units + 64 < cLine := hr.units
    have hu1 : (A.deeper (PyProof.Rows.envOfC "_law_falls" (defScope sFalls) s.heap.objs.size f cdv)).units + 1 < cLine := by omega
    refine ⟨_, (pss_cons (ps_set (i := 1) nd rfl (Or.inr rfl) (pe_callTy (call_dictP rfl) (by rfl) T.dict (by decide +kernel) (pa_cons (pe_lc (own := [("_law_k", 2), ("_law_place", 3)]) (g := gTup _ 2 (gCons (gName 2) (gCons (gName 3) gNil))) (tt := tYes) rfl nd (pi_enumT (by rfl) T.enumerate (pa_cons (pv 0) pa_nil)) (blkOk_by (N := NFA) (sc := defScope sFalls) (by decide +kernel)) (fun _ _ _ _ _ => (pg_tup rfl (pgs_cons (pg_name (i := 2) nd rfl (Or.inl rfl)) (pgs_cons (pg_name (i := 3) nd rfl (Or.inl rfl)) pgs_nil)))) (fun _ _ _ _ _ => pts_nil) (fun _ _ _ _ _ => (pe_tup (pa_cons (pv 3) (pa_cons (pv 2) pa_nil))))) pa_nil)))
      (pss_cons (ps_dput hu1 (pv 1) (pe_callB call_len_seq (by rfl) T.len (by decide +kernel) (pa_cons (pv 0) pa_nil)) (pe_un un_neg pe_int) rfl)
      (pss_one (ps_ret (pe_lc (own := [("_law_k", 2)]) (g := gName 2) rfl nd (pi_range1 (by rfl) T.range (pa_cons (pe_op op_sub (pe_callB call_len_seq (by rfl) T.len (by decide +kernel) (pa_cons (pv 0) pa_nil)) pe_int) pa_nil)) (blkOk_by (N := NFA) (sc := defScope sFalls) (by decide +kernel)) (fun _ _ _ _ _ => (pg_name (i := 2) nd rfl (Or.inl rfl))) (fun _ _ _ _ _ => (pts_one (pt_cmpR op_gt (pe_dget hu1 (pv 1) (pe_op op_add (pe_ix (ix_tupK (K := K)) (pv 0) (pv 2) (fun _ _ => rfl)) pe_int) (fun _ _ => rfl)) (pe_dget hu1 (pv 1) (pe_op op_add (pe_ix (ix_tupK (K := K)) (pv 0) (pe_op op_add (pv 2) pe_int) (fun _ _ => rfl)) pe_int) (fun _ _ => rfl)) (nomark _)))) (fun _ _ _ _ _ => (pv 2))))))), ?_⟩
    refine ⟨_, rfl, a, _, rfl, .of ha, fun D nD => lc_it walk_enumT (fun i H' => Same H H' ∧ ∃ ps : List Addr, H' D = some (.lst (ps.map V.ref)) ∧ Paired (fun p kv => H' p = some (.tup [kV kv.1, kv.2])) ps (enK 0 (ns.take i))) ⟨fun b o e => by rw [upd_ne (ne_of_none e nD)]; exact e, [], upd_same, .nil⟩ (fun _ _ _ ⟨s, _⟩ => .of (s _ _ ha)) ?_ ?_⟩
    · rintro i x H1 H2 hi ⟨s1, ps, d1, pr1⟩ ⟨T0, x1, y1, rfl, hT0, rfl, q1, q2⟩
      rw [List.length_map] at hi
      cases q1
      have q2 : (ns.map V.int)[i]? = some y1 := q2
      rw [List.getElem?_map, List.getElem?_eq_getElem hi] at q2
      cases q2
      obtain ⟨H3, f3, S3, A3⟩ := alloc (o := .tup [V.int (i : Nat), V.int ns[i]]) hT0
      rw [f3]
      have hpl := pr1.length
      rw [enK_len, List.length_take] at hpl
      refine ⟨T0, _, rfl, .of A3, rfl, _, _, rfl, _, _, rfl, rfl, rfl, _, rfl, _, rfl, (by show 2 ≤ sizeLine; decide), fun q nq => ?_⟩
      obtain ⟨H4, e4, S4, A4⟩ := alloc (o := .tup [V.int ns[i], V.int (i : Nat)]) nq
      rw [e4]
      have d4 := S4 _ _ (S3 _ _ d1)
      have hqD : q ≠ D := fun e => by rw [e, S3 _ _ d1] at nq; cases nq
      have hne : ∀ b o, H4 b = some o → b ≠ D → upd H4 D (.lst (ps.map V.ref ++ [V.ref q])) b = some o := fun b o e h => by rw [upd_ne h]; exact e
      refine ⟨_, d4, by rw [List.length_map]; omega, fun b o e => hne _ _ (S4 _ _ (S3 _ _ (s1 _ _ e))) (fun z => by rw [z, nD] at e; cases e), ps ++ [q], by rw [upd_same, List.map_append]; rfl, ?_⟩
      have et : ns.take (i + 1) = ns.take i ++ [ns[i]] := by
        rw [List.take_succ, List.getElem?_eq_getElem hi]
        rfl
      rw [et, enK_snoc, List.length_take, Nat.min_eq_left (by omega), Nat.zero_add]
      refine Paired.snoc (L2.Paired.mapP pr1 fun p kv r => ?_) (hne _ _ A4 hqD)
      exact hne _ _ (S4 _ _ (S3 _ _ r)) (fun z => by rw [z, d1] at r; cases r)
    · rintro H1 ⟨s1, ps, d1, pr1⟩
      rw [List.take_of_length_le (by rw [List.length_map]; exact Nat.le_refl _)] at pr1
      refine ⟨D, ps, _, rfl, .of d1, L2.Paired.mapP pr1 (fun p kv r => .of r), fun p2 n2 => ?_⟩
      rw [merge_enK (nodup_of hp)]
      obtain ⟨H2, e2, S2, A2⟩ := alloc (o := .dK (enK 0 ns)) n2
      rw [e2]
      have ha2 := S2 _ _ (s1 _ _ ha)
      have hp2 : H p2 = none := by
        cases hh : H p2 with
        | none => rfl
        | some o => rw [s1 _ _ hh] at n2; cases n2
      refine ⟨_, rfl, _, rfl, _, rfl, a, _, rfl, .inr (.of ha2), p2, _, rfl, DPut.k (k := Sum.inl ((((ns.map V.int).length : Nat)) : Int)) A2 (by rw [enK_len]; omega), ?_⟩
      obtain ⟨H3, e3, A3, S3⟩ : ∃ H3, upd H2 p2 (.dK (putK (enK 0 ns) (Sum.inl ((((ns.map V.int).length : Nat)) : Int)) (.int (-1)))) = H3 ∧ H3 p2 = some (.dK (latK ns)) ∧ ∀ b o, H2 b = some o → b ≠ p2 → H3 b = some o :=
        ⟨_, rfl, by rw [upd_same, List.length_map]; rfl, fun b o e n => by rw [upd_ne n]; exact e⟩
      rw [show upd H2 p2 _ = H3 from e3]
      have s3 : Same H H3 := fun b o e => S3 _ _ (S2 _ _ (s1 _ _ e)) (fun z => by rw [z, hp2] at e; cases e)
      have ha3 := s3 _ _ ha
      have hgt : ∀ i, i < ns.length → (ns.map V.int)[i]? = some (V.int ((sig ns i : Nat) : Int)) := fun i hi => by
        rw [List.getElem?_map, List.getElem?_eq_getElem hi, (ns_at hp hi).1]
        rfl
      refine ⟨_, rfl, a, _, rfl, .inr (.of ha3), _, _, rfl, rfl, _, rfl, by rw [List.length_map]; omega, by rw [List.length_map]; omega, fun D2 nD2 => ?_⟩
      rw [List.length_map, show ((ns.length : Int) - 1).toNat = ns.length - 1 by omega]
      refine lcM_range (R' := RInt) (n := ns.length - 1) (dropAt ns) (fun i => (0 : Int) + (i : Nat)) nD2 rint_keep (by omega) ?_ ?_
      · intro kk H4 C C0 hkk s4 c1 c0
        have ha4 := s4 _ _ ha3
        have dg : ∀ q, q ≤ ns.length → DGet H4 p2 (.int ((q : Nat) : Int)) (some (.int (rk ns q))) := fun q hq => by
          have := DGet.k (k := Sum.inl ((q : Nat) : Int)) (s4 _ _ A3)
          rw [lat_at hp hq] at this
          exact this
        have k1 := (ns_at hp (show kk < ns.length by omega)).2
        have k2 := (ns_at hp (show kk + 1 < ns.length by omega)).2
        have e0 : (0 : Int) + (kk : Nat) = ((kk : Nat) : Int) := Int.zero_add _
        have e1 : (0 : Int) + (kk : Nat) + 1 = ((kk + 1 : Nat) : Int) := by omega
        refine ⟨rfl, _, rfl, _, rfl, _, rfl, a, _, _, _, rfl, rfl, .of ha4, (by rw [e0]; exact atI_nat (hgt kk (by omega))), _, _, rfl, rfl, p2, _, rfl, dg (sig ns kk + 1) (by omega), ?_⟩
        refine ⟨_, rfl, _, rfl, _, rfl, _, _, rfl, rfl, a, _, _, _, rfl, rfl, .of ha4, (by rw [e1]; exact atI_nat (hgt (kk + 1) (by omega))), _, _, rfl, rfl, p2, _, rfl, dg (sig ns (kk + 1) + 1) (by omega), _, _, rfl, rfl, _, rfl, ?_⟩
        have ed := dropAt_iff hp (show kk + 1 < ns.length by omega)
        rw [← ed]
        cases hb : dropAt ns kk
        · exact c0 hb _ fun _ _ e => e
        · exact ⟨_, rfl, c1 hb _ _ (fun _ _ e => e) rfl⟩
      · intro ws H4 s4 hD hws
        have ew := rint_map hws
        have hD2 : H D2 = none := by
          cases hh : H D2 with
          | none => rfl
          | some o => rw [s3 _ _ hh] at nD2; cases nD2
        exact k D2 H4 hD2 (fun b o e => s4 _ _ (s3 _ _ e)) (by rw [hD, ew]; rfl)
end
end T23

set_option Elab.async false
set_option linter.all false
set_option maxRecDepth 100000
set_option maxHeartbeats 4000000
namespace T23
open PySem L2 EK LamX
def ownM (n : Nat) : Int := ((n : Nat) - 1 : Int) / 2
def rankF (n k : Nat) : Int := ((n : Nat) : Int) - 1 + (k : Nat) * (-1)
def othM (n : Nat) : List Int := ((List.range n).filter fun k => decide (rankF n k ≠ ownM n)).map (rankF n)
def nxO (n : Nat) : List (Option Int) := (othM n).map some ++ [none]
def ovV : Option Int → V
  | some i => .int i
  | none => .non
def tfS (n : Nat) : Nat → List Int × Option Int
  | 0 => (List.replicate n 0, some (ownM n))
  | i + 1 => match tfS n i with
    | (l, some o) => (l.set o.toNat (i : Nat), (nxO n).getD o.toNat none)
    | (l, none) => (l, none)
/-- all steps, with what is asked of each -/
def tfOk (n : Nat) : Nat → List Int × Option Int → Nat → Bool
  | 0, st, _ => permB st.1 && decide (st.1.length = n)
  | m + 1, (l, some o), i => decide (0 ≤ o) && decide (o < (n : Nat)) && decide (l.length = n) && decide (o.toNat < (nxO n).length) && tfOk n m (l.set o.toNat (i : Nat), (nxO n).getD o.toNat none) (i + 1)
  | _ + 1, (_, none), _ => false
set_option maxRecDepth 1000000 in
theorem tf_facts : ∀ n, n < 41 → n = 0 ∨ tfOk n n (tfS n 0) 0 = true := by decide +kernel
theorem tf_all {n : Nat} : ∀ (m i : Nat), tfOk n m (tfS n i) i = true → (∀ j, i ≤ j → j < i + m → ∃ o : Nat, (tfS n j).2 = some (o : Int) ∧ o < n ∧ (tfS n j).1.length = n ∧ o < (nxO n).length) ∧ permB (tfS n (i + m)).1 = true ∧ (tfS n (i + m)).1.length = n
  | 0, i, h => by
    rw [tfOk, Bool.and_eq_true] at h
    exact ⟨fun j h1 h2 => by omega, h.1, of_decide_eq_true h.2⟩
  | m + 1, i, h => by
    cases hs : tfS n i with
    | mk l oo =>
      rw [hs] at h
      cases oo with
      | none => cases h
      | some o =>
        rw [tfOk, Bool.and_eq_true, Bool.and_eq_true, Bool.and_eq_true, Bool.and_eq_true] at h
        obtain ⟨⟨⟨⟨h1, h2⟩, h3⟩, h4⟩, h5⟩ := h
        have e : tfS n (i + 1) = (l.set o.toNat (i : Nat), (nxO n).getD o.toNat none) := by rw [tfS, hs]
        rw [← e] at h5
        obtain ⟨k1, k2, k3⟩ := tf_all m (i + 1) h5
        have h1 := of_decide_eq_true h1
        have h2 := of_decide_eq_true h2
        refine ⟨fun j j1 j2 => ?_, by rw [show i + (m + 1) = i + 1 + m by omega]; exact k2, by rw [show i + (m + 1) = i + 1 + m by omega]; exact k3⟩
        by_cases hj : j = i
        · subst hj
          rw [hs]
          exact ⟨o.toNat, by show some o = _; congr 1; omega, by omega, of_decide_eq_true h3, of_decide_eq_true h4⟩
        · exact k1 j (by omega) (by omega)
def tfM (n : Nat) : List Int := (tfS n n).1
theorem neI (a b : Int) : (!decide (V.int a = V.int b)) = decide (a ≠ b) := by
  by_cases h : a = b
  · rw [h, decide_eq_true rfl, decide_eq_false (fun e => e rfl)]
    rfl
  · rw [decide_eq_true h, decide_eq_false (fun e => h (by injection e))]
    rfl
theorem nxO_V (n : Nat) : (othM n).map V.int ++ [V.non] = (nxO n).map ovV := by
  unfold nxO
  rw [List.map_append, List.map_map]
  rfl
abbrev NTF : List Str := ["_law_size", "_law_own", "_law_found", "_law_nexts", "_law_place", "_law_rank"]
def spTF : Sp := fun vs H Q _ => ∃ n : Nat, vs = [.int n] ∧ 1 ≤ n ∧ n ≤ 40 ∧ ∀ p H', H p = none → Same H H' → H' p = some (.tup ((tfM n).map V.int)) → Q (.ref p) H'
section
variable {P : Program} {w : World} {K : PySem.W.Frag} {mg : Str → Option Value} {base : Heap}
theorem scTF : FnScope NTF ["_law_size"] (defScope sToAndFro) := ⟨rfl, rfl, rfl, by decide +kernel, rfl, by decide +kernel, by decide +kernel⟩
theorem ok_tf {f : Addr} {fd : FuncData} (F : Fun K "_law_to_and_fro" "_law_to_and_fro" sToAndFro f fd) (T : TxtC K mg) : FnOk P w K mg base CX0 1 f fd ["_law_size"] spTF := by
  refine F.ok scTF (fun vs H Q E h => ?_) (fun cdv A outer s H vs Q E hr h => ?_)
  · obtain ⟨n, rfl, _⟩ := h
    rfl
  · obtain ⟨n, rfl, h1, h2, k⟩ := h
    have nd := scTF.nd
    have hz : sizeLine = 2 ^ 24 := sizeLine_eq
    refine ⟨_, (pss_cons (ps_asg (pe_tup (pa_cons (pe_op op_fdiv (pe_op op_sub (pv 0) pe_int) pe_int) (pa_cons (pe_op op_rep (pe_lst (pa_cons pe_int pa_nil)) (pv 0)) pa_nil))) (pg_tup rfl (pgs_cons (pg_name (i := 1) nd rfl (Or.inr rfl)) (pgs_cons (pg_name (i := 2) nd rfl (Or.inl rfl)) pgs_nil))))
      (pss_cons (ps_set (i := 3) nd rfl (Or.inl rfl) (pe_op op_cat (pe_lc (own := [("_law_rank", 5)]) (g := gName 5) rfl nd (pi_range3 (by rfl) T.range (pa_cons (pe_op op_sub (pv 0) pe_int) (pa_cons (pe_op op_sub pe_int pe_int) (pa_cons (pe_op op_sub pe_int pe_int) pa_nil)))) (blkOk_by (N := NTF) (sc := defScope sToAndFro) (by decide +kernel)) (fun _ _ _ _ _ => (pg_name (i := 5) nd rfl (Or.inl rfl))) (fun _ _ _ _ _ => (pts_one (pt_cmpR op_ne (pv 5) (pv 1) (nomark _)))) (fun _ _ _ _ _ => (pv 5))) (pe_lst (pa_cons pe_non pa_nil))))
      (pss_cons (ps_for PassesOwn.never rfl (pi_range1 (by rfl) T.range (pa_cons (pv 0) pa_nil)) (pg_name (i := 4) nd rfl (Or.inl rfl)) (pss_cons (ps_asg (pv 4) (pg_sub (pv 2) (pv 1) set_list))
      (pss_one (ps_set (i := 1) nd rfl (Or.inr rfl) (pe_ix ix_list (pv 3) (pv 1) (fun _ _ => rfl))))))
      (pss_one (ps_ret (pe_callTy call_tuple_of (by rfl) T.tuple (by decide +kernel) (pa_cons (pv 2) pa_nil))))))), ?_⟩
    obtain ⟨k1, k2, k3⟩ := tf_all (n := n) n 0 ((tf_facts n (by omega)).resolve_left (by omega))
    rw [Nat.zero_add] at k2 k3
    refine ⟨_, rfl, _, _, rfl, rfl, _, _, rfl, rfl, ⟨by omega, by omega⟩, ?_⟩
    refine ⟨(by show 1 ≤ sizeLine; decide), fun p0 z0 => ?_⟩
    obtain ⟨H0, e0, S0, A0⟩ := alloc (o := .lst [.int 0]) z0
    rw [e0]
    refine ⟨_, rfl, p0, _, _, rfl, rfl, A0, by omega, by omega, by show 1 * _ ≤ _; omega, fun p z1 => ?_⟩
    have er : (List.replicate ((n : Int)).toNat [V.int 0]).flatten = (tfS n 0).1.map V.int := by
      rw [List.flatten_replicate_singleton, tfS, List.map_replicate, Int.toNat_natCast]
    rw [er]
    obtain ⟨H1, e1, S1, A1⟩ := alloc (o := .lst ((tfS n 0).1.map V.int)) z1
    rw [e1]
    have hp : H p = none := by
      cases hh : H p with
      | none => rfl
      | some o => rw [S0 _ _ hh] at z1; cases z1
    refine ⟨(by show 2 ≤ sizeLine; decide), fun pt zt => ?_⟩
    obtain ⟨H2, e2, S2, A2⟩ := alloc (o := .tup [.int (ownM n), .ref p]) zt
    change gTup _ _ _ _ _ (upd H1 pt (.tup [.int (ownM n), .ref p])) _
    rw [e2]
    have s02 : Same H H2 := fun b o e => S2 _ _ (S1 _ _ (S0 _ _ e))
    refine ⟨pt, _, rfl, .of A2, rfl, _, _, rfl, _, _, rfl, rfl, ?_⟩
    refine ⟨_, rfl, _, _, rfl, rfl, _, _, rfl, rfl, _, _, rfl, rfl, _, _, _, _, rfl, RgC.neg (by omega) (by omega) (by omega) (by omega), fun D nD => ?_⟩
    rw [show ((n : Int) - 1 - (0 - 1)).toNat = n by omega]
    refine lc_it walk_rangeC (fun i H' => Same H2 H' ∧ H' D = some (.lst ((((List.range i).filter fun k => decide (rankF n k ≠ ownM n)).map (rankF n)).map V.int))) ⟨fun b o e => by rw [upd_ne (ne_of_none e nD)]; exact e, upd_same⟩ (fun _ _ _ _ => trivial) ?_ ?_
    · rintro i x H3 H4 hi ⟨s3, d3⟩ ⟨rfl, rfl⟩
      refine ⟨rfl, _, rfl, _, rfl, rfl, _, rfl, ?_⟩
      have hlen : (((List.range i).filter fun k => decide (rankF n k ≠ ownM n)).map (rankF n)).length ≤ i := by
        rw [List.length_map]
        exact Nat.le_trans (List.length_filter_le _ _) (by rw [List.length_range]; exact Nat.le_refl _)
      change if (!decide (V.int (rankF n i) = V.int (ownM n))) = true then _ else _
      rw [neI]
      by_cases hb : rankF n i ≠ ownM n
      · rw [decide_eq_true hb]
        refine ⟨_, rfl, _, d3, by rw [List.length_map]; omega, fun b o e => ?_, ?_⟩
        · rw [upd_ne (ne_of_none e nD)]
          exact s3 _ _ e
        · rw [upd_same, List.range_succ, List.filter_append, List.filter_cons_of_pos (by simpa using hb), List.filter_nil, List.map_append, List.map_append]
          rfl
      · rw [decide_eq_false hb]
        refine ⟨s3, ?_⟩
        rw [d3, List.range_succ, List.filter_append, List.filter_cons_of_neg (by simpa using hb), List.filter_nil, List.append_nil]
    · rintro H3 ⟨s3, d3⟩
      have d3 : H3 D = some (.lst ((othM n).map V.int)) := d3
      have hol : (othM n).length ≤ n := by
        unfold othM
        rw [List.length_map]
        exact Nat.le_trans (List.length_filter_le _ _) (by rw [List.length_range]; exact Nat.le_refl _)
      refine ⟨(by show 1 ≤ sizeLine; decide), fun p4 z4 => ?_⟩
      obtain ⟨H4, e4, S4, A4⟩ := alloc (o := .lst [V.non]) z4
      rw [e4]
      refine ⟨D, p4, _, _, rfl, rfl, S4 _ _ d3, A4, by rw [List.length_map]; show _ + 1 ≤ _; omega, fun q z5 => ?_⟩
      rw [nxO_V]
      obtain ⟨H5, e5, S5, A5⟩ := alloc (o := .lst ((nxO n).map ovV)) z5
      rw [e5]
      have s25 : Same H2 H5 := fun b o e => S5 _ _ (S4 _ _ (s3 _ _ e))
      have hpq : p ≠ q := fun e => by
        have := S4 _ _ (s3 _ _ (S2 _ _ A1))
        rw [e, z5] at this
        cases this
      refine ⟨_, rfl, _, rfl, by omega, by omega, ?_⟩
      rw [Int.toNat_natCast]
      refine for_range (lo := 0) (n := n) (fun i σ H' => ∃ v4 : Option V, σ = [some (.int n), some (ovV (tfS n i).2), some (.ref p), some (.ref q), v4, none] ∧ Same H H' ∧ H' p = some (.lst ((tfS n i).1.map V.int)) ∧ H' q = some (.lst ((nxO n).map ovV))) ⟨none, rfl, fun b o e => s25 _ _ (s02 _ _ e), s25 _ _ (S2 _ _ A1), A5⟩ ?_ ?_
      · rintro i σ H6 hi ⟨v4, rfl, s6, a6, b6⟩
        obtain ⟨o, ho, hon, hol, hox⟩ := k1 i (Nat.zero_le _) (by omega)
        rw [ho]
        have e1 : tfS n (i + 1) = ((tfS n i).1.set o (i : Nat), (nxO n).getD o none) := by
          rw [tfS]
          cases hs : tfS n i with
          | mk l oo =>
            rw [hs] at ho
            cases ho
            show ((l.set ((o : Int)).toNat (i : Nat), (nxO n).getD ((o : Int)).toNat none) : List Int × Option Int) = _
            rw [Int.toNat_natCast]
        have hnx : ((nxO n).map ovV)[o]? = some (ovV ((nxO n).getD o none)) := by
          rw [List.getElem?_map, List.getD_eq_getElem?_getD, List.getElem?_eq_getElem hox]
          rfl
        refine ⟨_, rfl, _, rfl, _, rfl, p, _, _, o, rfl, rfl, a6, (by have := ixN_int (n := ((tfS n i).1.map V.int).length) (k := ((o : Nat) : Int)) (by omega) (by rw [List.length_map]; omega); rwa [Int.toNat_natCast] at this), ?_⟩
        have e0 : (0 : Int) + (i : Nat) = ((i : Nat) : Int) := Int.zero_add _
        refine ⟨_, rfl, _, rfl, q, _, _, _, rfl, rfl, .of (by rw [upd_ne (Ne.symm hpq)]; exact b6), atI_nat hnx, ?_⟩
        refine ⟨_, by rw [e1]; rfl, fun b o e => ?_, ?_, ?_⟩
        · rw [upd_ne (ne_of_none e hp)]
          exact s6 _ _ e
        · rw [upd_same, e1, e0, List.map_set]
        · rw [upd_ne (Ne.symm hpq)]
          exact b6
      · rintro σ H6 ⟨v4, rfl, s6, a6, b6⟩
        refine ⟨_, rfl, p, _, rfl, .inl ⟨.of a6, fun l zl => ?_⟩⟩
        obtain ⟨H7, e7, S7, A7⟩ := alloc (o := .tup ((tfS n n).1.map V.int)) zl
        rw [e7]
        have hl : H l = none := by
          cases hh : H l with
          | none => rfl
          | some o => rw [s6 _ _ hh] at zl; cases zl
        exact k l H7 hl (fun b o e => S7 _ _ (s6 _ _ e)) A7
end
theorem tf_perm {n : Nat} (h1 : 1 ≤ n) (h2 : n ≤ 40) : permB (tfM n) = true ∧ (tfM n).length = n := by
  obtain ⟨k1, k2, k3⟩ := tf_all (n := n) n 0 ((tf_facts n (by omega)).resolve_left (by omega))
  rw [Nat.zero_add] at k2 k3
  exact ⟨k2, k3⟩
end T23

set_option Elab.async false
set_option linter.all false
set_option maxRecDepth 100000
set_option maxHeartbeats 4000000
namespace T23
open PySem L2 EK LamX
theorem permB_of {ns : List Int} (h : ns.Perm (rangeI ns.length)) : permB ns = true := by
  unfold permB
  refine decide_eq_true (sort_is h.symm ?_).symm
  unfold rangeI
  rw [List.pairwise_map]
  exact List.pairwise_lt_range.imp fun h => by omega
def downI (m : Nat) : List Int := (List.range m).map fun k => ((m : Nat) : Int) - 1 - ((0 : Int) + (k : Nat))
theorem downI_len (m : Nat) : (downI m).length = m := by rw [downI, List.length_map, List.length_range]
theorem downI_perm (m : Nat) : permB (downI m) = true := by
  refine permB_of ?_
  rw [downI_len]
  have e : downI m = (rangeI m).reverse := by
    unfold downI rangeI
    rw [← List.map_reverse]
    refine List.ext_getElem (by rw [List.length_map, List.length_map, List.length_reverse]) fun i h1 h2 => ?_
    rw [List.length_map, List.length_range] at h1
    rw [List.getElem_map, List.getElem_map, List.getElem_range, List.getElem_reverse, List.getElem_range, List.length_range]
    omega
  rw [e]
  exact List.reverse_perm _
theorem swap_perm {ns : List Int} {i j : Nat} (hi : i < ns.length) (hj : j < ns.length) (h : permB ns = true) : permB ((ns.set i ns[j]).set j ns[i]) = true := by
  refine permB_of ?_
  rw [List.length_set, List.length_set]
  exact (List.set_set_perm hi hj).trans (perm_of h)
abbrev NNE : List Str := ["_law_urn_here", "_law_size", "_law_k", "_law_found", "_law_turn"]
def spNearly : Sp := fun vs H Q _ => ∃ (a : Addr) (n : Int) (m : Nat), vs = [.ref a, .int m] ∧ UrnAt H a n ∧ n ≤ 900000 ∧ m ≤ 300 ∧ ∀ p ns H', permB ns = true → ns.length = m → H' p = some (.tup (ns.map V.int)) → UrnAt H' a (n + 100) → KeepB a H H' → Q (.ref p) H'
section
variable {P : Program} {w : World} {K : PySem.W.Frag} {mg : Str → Option Value} {base : Heap} {fP : Addr} {fdP : FuncData}
theorem scNearly : FnScope NNE ["_law_urn_here", "_law_size"] (defScope sNearly) := ⟨rfl, rfl, rfl, by decide +kernel, rfl, by decide +kernel, by decide +kernel⟩
theorem ok_nearly {f : Addr} {fd : FuncData} (F : Fun K "_law_nearly" "_law_nearly" sNearly f fd) (T : TxtC K mg)
    (GP : FnOk P w K mg base CX0 1 fP fdP ["_law_urn_here", "_law_many"] spPull) (gP : mg "_law_pull" = some (.ref fP)) (kP : PySem.W.keepIn K (.ref fP) = true) (bP : Binds K fdP ["_law_urn_here", "_law_many"] []) :
    FnOk P w K mg base CX0 2 f fd ["_law_urn_here", "_law_size"] spNearly := by
  refine F.ok scNearly (fun vs H Q E h => ?_) (fun cdv A outer s H vs Q E hr h => ?_)
  · obtain ⟨a, n, m, rfl, _⟩ := h
    rfl
  · obtain ⟨a, n, m, rfl, hw, hn, hm, k⟩ := h
    have nd := scNearly.nd
    have hz : sizeLine = 2 ^ 24 := sizeLine_eq
    have hr1 : Room 1 _ := hr
    refine ⟨_, (pss_cons (ps_setLc (i := 3) (own := [("_law_k", 2)]) (g := gName 2) (tt := tYes) rfl nd rfl rfl (sw_true rfl rfl rfl (by decide +kernel)) (pi_range1 (by rfl) T.range (pa_cons (pv 1) pa_nil)) (blkOk_by (N := NNE) (sc := defScope sNearly) (by decide +kernel)) (fun _ _ _ _ _ => (pg_name (i := 2) nd rfl (Or.inl rfl))) (fun _ _ _ _ _ => pts_nil) (fun _ _ _ _ _ => (pe_op op_sub (pe_op op_sub (pv 1) pe_int) (pv 2))))
      (pss_cons (ps_for PassesOwn.never rfl (pi_range1 (by rfl) T.range (pa_cons (pe_op op_mul (pe_call GP hr1 rfl gP kP bP .nil pass0 (pa_cons (pv 0) (pa_cons pe_int pa_nil))) (pe_callTy call_int1 (by rfl) T.int (by decide +kernel) (pa_cons (pe_cmpR op_gt (pv 1) pe_int (nomark _)) pa_nil))) pa_nil)) (pg_name (i := 4) nd rfl (Or.inl rfl))
        (pss_cons (ps_set (i := 2) nd rfl (Or.inl rfl) (pe_call GP hr1 rfl gP kP bP .nil pass0 (pa_cons (pv 0) (pa_cons (pe_op op_sub (pv 1) pe_int) pa_nil))))
        (pss_one (ps_asg (pe_tup (pa_cons (pe_ix ix_list (pv 3) (pe_op op_add (pv 2) pe_int) (fun _ _ => rfl)) (pa_cons (pe_ix ix_list (pv 3) (pv 2) (fun _ _ => rfl)) pa_nil))) (pg_tup rfl (pgs_cons (pg_sub (pv 3) (pv 2) set_list) (pgs_cons (pg_sub (pv 3) (pe_op op_add (pv 2) pe_int) set_list) pgs_nil)))))))
      (pss_one (ps_ret (pe_callTy call_tuple_of (by rfl) T.tuple (by decide +kernel) (pa_cons (pv 3) pa_nil)))))), ?_⟩
    refine ⟨_, rfl, _, rfl, by omega, by omega, fun D nD => ?_⟩
    rw [Int.toNat_natCast]
    have hDa : D ≠ a := hw.ne0 nD
    refine lcM_range (R' := RInt) (n := m) (fun _ => true) (fun k => ((m : Nat) : Int) - 1 - ((0 : Int) + (k : Nat))) nD rint_keep (by omega) ?_ ?_
    · intro kk H1 C C0 hkk s1 c1 _
      exact ⟨rfl, _, rfl, _, _, rfl, rfl, _, rfl, _, _, rfl, rfl, c1 rfl _ _ (fun _ _ e => e) rfl⟩
    · intro ws H1 s1 hD hws
      rw [List.filter_eq_self.mpr fun _ _ => rfl] at hws
      have ew := rint_map hws
      have hD : H1 D = some (.lst ((downI m).map V.int)) := by rw [hD, ew]; rfl
      have hw1 : UrnAt H1 a n := hw.keep fun o e => s1 _ _ e
      refine ⟨_, rfl, a, 9, _, rfl, hw1, by omega, by decide, by decide, fun d H2 d0 d1 hw2 hk2 => ?_⟩
      refine ⟨_, rfl, _, _, rfl, rfl, .inr ⟨_, rfl, ?_⟩⟩
      obtain ⟨c, hc, hc1, hc2⟩ : ∃ c : Nat, d * (if decide ((1 : Int) < (m : Nat)) = true then 1 else 0) = (c : Int) ∧ c ≤ 8 ∧ (0 < c → 1 < m) := by
        by_cases h : (1 : Int) < (m : Nat)
        · rw [decide_eq_true h, if_pos rfl]
          exact ⟨d.toNat, by omega, by omega, fun _ => by omega⟩
        · rw [decide_eq_false h, if_neg (by decide)]
          exact ⟨0, by omega, by omega, fun z => by omega⟩
      refine ⟨_, _, rfl, rfl, .inl ⟨by omega, by omega⟩, ?_⟩
      refine ⟨(c : Int), by rw [← hc], by omega, by omega, ?_⟩
      rw [Int.toNat_natCast]
      refine for_range (lo := 0) (n := c) (fun i σ H' => ∃ (v2 v4 : Option V) (ns : List Int), σ = [some (.ref a), some (.int m), v2, some (.ref D), v4] ∧ UrnAt H' a (n + 1 + (i : Nat)) ∧ KeepB a H H' ∧ H' D = some (.lst (ns.map V.int)) ∧ permB ns = true ∧ ns.length = m) ⟨none, none, downI m, rfl, hw2.mono (by omega), (KeepB.of fun b o e => s1 _ _ e).trans hk2, hk2 _ _ hD hDa, downI_perm m, downI_len m⟩ ?_ ?_
      · rintro i σ H3 hi ⟨v2, v4, ns, rfl, hw3, hk3, hD3, hp3, hl3⟩
        have hm1 := hc2 (by omega)
        refine ⟨_, rfl, _, rfl, _, _, rfl, rfl, a, _, _, rfl, hw3, by omega, by omega, by omega, fun d4 H4 d40 d41 hw4 hk4 => ?_⟩
        obtain ⟨j, rfl⟩ : ∃ j : Nat, d4 = (j : Int) := ⟨d4.toNat, by omega⟩
        have hj : j + 1 < ns.length := by omega
        have hj0 : j < ns.length := by omega
        have hD4 := hk4 _ _ hD3 hDa
        have ej : ((j : Nat) : Int) + 1 = ((j + 1 : Nat) : Int) := rfl
        refine ⟨_, rfl, _, rfl, _, _, rfl, rfl, D, _, _, _, rfl, rfl, .of hD4, (by rw [ej]; exact atI_nat (v := V.int ns[j + 1]) (by rw [List.getElem?_map, List.getElem?_eq_getElem hj]; rfl)), ?_⟩
        refine ⟨_, rfl, _, rfl, D, _, _, _, rfl, rfl, .of hD4, (atI_nat (v := V.int ns[j]) (by rw [List.getElem?_map, List.getElem?_eq_getElem hj0]; rfl)), (by show 2 ≤ sizeLine; decide), fun pt zt => ?_⟩
        obtain ⟨H5, e5, S5, A5⟩ := alloc (o := .tup [V.int ns[j + 1], V.int ns[j]]) zt
        rw [e5]
        have hD5 := S5 _ _ hD4
        have hDt : D ≠ pt := fun e => by rw [← e, hD4] at zt; cases zt
        refine ⟨pt, _, rfl, .of A5, rfl, _, _, rfl, _, rfl, _, rfl, D, _, _, j, rfl, rfl, hD5, (by have := ixN_int (n := (ns.map V.int).length) (k := ((j : Nat) : Int)) (by omega) (by rw [List.length_map]; omega); rwa [Int.toNat_natCast] at this), ?_⟩
        have e1 : (ns.map V.int).set j (V.int ns[j + 1]) = (ns.set j ns[j + 1]).map V.int := by rw [List.map_set]
        rw [e1]
        refine ⟨_, _, rfl, _, rfl, _, rfl, _, _, rfl, rfl, D, _, _, j + 1, rfl, rfl, upd_same, (by rw [ej]; have := ixN_int (n := ((ns.set j ns[j + 1]).map V.int).length) (k := ((j + 1 : Nat) : Int)) (by omega) (by rw [List.length_map, List.length_set]; omega); rwa [Int.toNat_natCast] at this), ?_⟩
        have hpt5 : H4 pt = none := zt
        refine ⟨rfl, ?_⟩
        refine ⟨_, _, (ns.set j ns[j + 1]).set (j + 1) ns[j], rfl, ?_, fun b o e hb => ?_, ?_, swap_perm hj0 hj hp3, by rw [List.length_set, List.length_set]; exact hl3⟩
        · refine (hw4.keep fun o e => ?_).mono (by omega)
          rw [upd_ne (Ne.symm hDa), upd_ne (Ne.symm hDa)]
          exact S5 _ _ e
        · have hbD : b ≠ D := ne_of_none e nD
          rw [upd_ne hbD, upd_ne hbD]
          exact S5 _ _ (hk4 _ _ (hk3 _ _ e hb) hb)
        · rw [upd_same, ← List.map_set]
      · rintro σ H3 ⟨v2, v4, ns, rfl, hw3, hk3, hD3, hp3, hl3⟩
        refine ⟨_, rfl, D, _, rfl, .inl ⟨.of hD3, fun p4 z4 => ?_⟩⟩
        obtain ⟨H4, e4, S4, A4⟩ := alloc (o := .tup (ns.map V.int)) z4
        rw [e4]
        exact k p4 ns H4 hp3 hl3 A4 ((hw3.keep fun o e => S4 _ _ e).mono (by omega)) fun b o e hb => S4 _ _ (hk3 _ _ e hb)
end
end T23

set_option Elab.async false
set_option linter.all false
set_option maxRecDepth 100000
set_option maxHeartbeats 4000000
/-! ListStr: list(text). -/
namespace L2
open PySem PySem.Spec PyProof.Rows
section
variable {X : Cx}
def rListS : List V → Hp → VK → Prop := fun xs H Q => ∃ z : Str, xs = [.str z] ∧ z.cps.size ≤ 1000 ∧ ∀ p, H p = none → Q (.ref p) (upd H p (.lst (z.cps.toList.map fun c => V.str ⟨#[c]⟩)))
theorem call_listS (hc : X.calm = true) : CallR X (.type "list") rListS := by
  intro pins s σ H xs us Q I r h
  obtain ⟨z, rfl, hz, q⟩ := h
  obtain ⟨u, rfl, ru⟩ := vals1 r
  obtain ⟨t, rfl⟩ := ru
  have hsz : sizeLine = 2 ^ 24 := sizeLine_eq
  refine call_list_str (I.ok.hd hc) z t (fun h' tk acc c' hk hS hi => ?_) (by omega)
  refine ⟨.ref s.heap.objs.size, _, I.laid (t' := tk) (a := s.heap.objs.size) (o := .lst (z.cps.toList.map fun c => V.str ⟨#[c]⟩)) hk (Nat.le_refl _) ⟨by rw [List.length_map, Array.length_toList]; omega, acc.toList, c', vals_at (by rw [Array.length_toList, hi.1, List.length_map, Array.length_toList]) fun i u hu => ?_, by rw [Array.toArray_toList]; exact hS⟩, rfl, q _ (I.hok.fresh (Nat.le_refl _))⟩
  obtain ⟨c, v, e1, e2⟩ := hi.2 i u (by rw [← Array.getElem?_toList]; exact hu)
  exact ⟨.str ⟨#[c]⟩, by rw [List.getElem?_map, Array.getElem?_toList, e1]; rfl, ⟨v, e2⟩⟩
end
end L2

set_option Elab.async false
set_option linter.all false
set_option maxRecDepth 100000
set_option maxHeartbeats 4000000
namespace T23
open PySem L2 EK LamX
def ddN (l : List Nat) : List Nat := l.foldl (fun acc c => if c ∈ acc then acc else acc ++ [c]) []
def kvS (c : Nat) : Key × V := (Sum.inr ⟨#[c]⟩, .bl true)
theorem kvS_inj {c d : Nat} (h : (kvS c).1 = (kvS d).1) : c = d := by
  have h2 : (⟨#[c]⟩ : Str) = ⟨#[d]⟩ := Sum.inr.inj h
  have := congrArg (fun s : Str => s.cps.toList) h2
  exact (List.cons.inj (show [c] = [d] from this)).1
theorem put_kvS (acc : List Nat) (c : Nat) : putK (acc.map kvS) (kvS c).1 (kvS c).2 = (if c ∈ acc then acc else acc ++ [c]).map kvS := by
  unfold putK
  by_cases h : c ∈ acc
  · rw [if_pos h, if_pos]
    · rw [List.map_map]
      refine List.map_congr_left fun d _ => ?_
      show (if (kvS d).1 = (kvS c).1 then ((kvS d).1, (kvS c).2) else kvS d) = kvS d
      split <;> rfl
    · rw [List.any_eq_true]
      exact ⟨kvS c, List.mem_map.mpr ⟨c, h, rfl⟩, decide_eq_true rfl⟩
  · rw [if_neg h, if_neg, List.map_append]
    · rfl
    · intro w
      rw [List.any_eq_true] at w
      obtain ⟨x, hx, e⟩ := w
      obtain ⟨d, hd, rfl⟩ := List.mem_map.mp hx
      exact h (by rw [← kvS_inj (of_decide_eq_true e)]; exact hd)
theorem merge_kvS (l : List Nat) : mergeK [] (l.map kvS) = (ddN l).map kvS := by
  have gen : ∀ (l acc : List Nat), mergeK (acc.map kvS) (l.map kvS) = (l.foldl (fun acc c => if c ∈ acc then acc else acc ++ [c]) acc).map kvS := by
    intro l
    induction l with
    | nil => intro acc; rfl
    | cons c l ih =>
      intro acc
      show mergeK (putK (acc.map kvS) (kvS c).1 (kvS c).2) (l.map kvS) = _
      rw [put_kvS, ih]
      rfl
  exact gen l []
theorem ddN_ok (l : List Nat) : (ddN l).Nodup ∧ ∀ c, c ∈ ddN l ↔ c ∈ l := by
  have gen : ∀ (l acc : List Nat), acc.Nodup → (l.foldl (fun acc c => if c ∈ acc then acc else acc ++ [c]) acc).Nodup ∧ ∀ c, c ∈ l.foldl (fun acc c => if c ∈ acc then acc else acc ++ [c]) acc ↔ c ∈ acc ∨ c ∈ l := by
    intro l
    induction l with
    | nil => intro acc h; exact ⟨h, fun c => by simp⟩
    | cons d l ih =>
      intro acc h
      rw [List.foldl_cons]
      by_cases hd : d ∈ acc
      · rw [if_pos hd]
        obtain ⟨i1, i2⟩ := ih acc h
        refine ⟨i1, fun c => (i2 c).trans ?_⟩
        rw [List.mem_cons]
        constructor
        · rintro (w | w)
          · exact .inl w
          · exact .inr (.inr w)
        · rintro (w | rfl | w)
          · exact .inl w
          · exact .inl hd
          · exact .inr w
      · rw [if_neg hd]
        obtain ⟨i1, i2⟩ := ih (acc ++ [d]) (List.nodup_append.mpr ⟨h, List.nodup_cons.mpr ⟨List.not_mem_nil, List.nodup_nil⟩, fun a ha b hb e => hd (by rw [← List.mem_singleton.mp hb, ← e]; exact ha)⟩)
        refine ⟨i1, fun c => (i2 c).trans ?_⟩
        rw [List.mem_append, List.mem_singleton, List.mem_cons]
        constructor
        · rintro ((w | w) | w)
          · exact .inl w
          · exact .inr (.inl w)
          · exact .inr (.inr w)
        · rintro (w | w | w)
          · exact .inl (.inl w)
          · exact .inl (.inr w)
          · exact .inr w
  obtain ⟨h1, h2⟩ := gen l [] List.nodup_nil
  exact ⟨h1, fun c => (h2 c).trans ⟨fun w => w.elim (fun z => by cases z) id, .inr⟩⟩
/-- each number up to the last one is taken -/
theorem ltNum_all (ns : List Int) : ∀ m k, k ≤ ltNum ns m → ∃ i, i ≤ m ∧ ltNum ns i = k
  | 0, k, h => ⟨0, Nat.le_refl _, by have : ltNum ns 0 = 0 := rfl; omega⟩
  | m + 1, k, h => by
    rcases Nat.lt_or_ge k (ltNum ns (m + 1)) with w | w
    · have := ltNum_step ns m
      obtain ⟨i, h1, h2⟩ := ltNum_all ns m k (by split at this <;> omega)
      exact ⟨i, by omega, h2⟩
    · exact ⟨m + 1, Nat.le_refl _, by omega⟩
theorem dd_perm {ns : List Int} (h : permB ns = true) (h0 : ns ≠ []) : (ddN (lettersM ns)).Perm ((List.range ((dropsM ns).length + 1)).map fun k => 97 + k) := by
  have hn : 0 < ns.length := List.length_pos_iff.mpr h0
  obtain ⟨nd, hm⟩ := ddN_ok (lettersM ns)
  refine (List.perm_ext_iff_of_nodup nd ?_).mpr fun c => ?_
  · rw [List.nodup_iff_pairwise_ne, List.pairwise_map]
    exact List.pairwise_lt_range.imp fun q => by omega
  · rw [hm, lettersM, List.mem_map, List.mem_map]
    constructor
    · rintro ⟨p, hp, rfl⟩
      obtain ⟨i, hi, rfl⟩ := sig_sur h (List.mem_range.mp hp)
      rw [rk_sig h hi, Int.toNat_natCast]
      have := ltNum_mono ns (show i ≤ ns.length - 1 by omega)
      rw [ltNum_last] at this
      exact ⟨ltNum ns i, List.mem_range.mpr (by omega), rfl⟩
    · rintro ⟨k, hk, rfl⟩
      have hk := List.mem_range.mp hk
      obtain ⟨i, h1, h2⟩ := ltNum_all ns (ns.length - 1) k (by rw [ltNum_last]; omega)
      have hi : i < ns.length := by omega
      exact ⟨sig ns i, List.mem_range.mpr (ns_at h hi).2, by rw [rk_sig h hi, Int.toNat_natCast, h2]⟩
theorem same_ints {as bs : List Int} (h : as.map V.int = bs.map V.int) : as = bs := by
  have := congrArg (List.map valI) h
  rw [List.map_map, List.map_map] at this
  simpa [Function.comp_def, valI] using this
theorem tup_same {H : Hp} {a b : Addr} {as bs : List Int} (h1 : H a = some (.tup (as.map V.int))) (e : V.ref a = V.ref b) (h2 : H b = some (.tup (bs.map V.int))) : bs = as := by
  injection e with e
  subst e
  rw [h1] at h2
  injection h2 with h2
  injection h2 with h2
  exact (same_ints h2).symm
def S1 (c : Nat) : Str := ⟨#[c]⟩
theorem lt_one (a b : Nat) : PySem.Spec.ltCps (S1 a).cps.toList (S1 b).cps.toList = decide (a < b) := by
  show PySem.Spec.ltCps [a] [b] = _
  simp [PySem.Spec.ltCps]
theorem rising_pw : ∀ (l : List Nat) (p : Nat), PyProof.Rows.risingS (S1 p) (l.map S1) = true → (p :: l).Pairwise (· ≤ ·)
  | [], p, _ => List.pairwise_singleton _ _
  | x :: r, p, h => by
    rw [List.map_cons, PyProof.Rows.risingS, lt_one, Bool.and_eq_true] at h
    have h1 : p ≤ x := by
      have := h.1
      simp at this
      exact this
    have ih := rising_pw r x h.2
    refine List.pairwise_cons.mpr ⟨fun y hy => ?_, ih⟩
    rcases List.mem_cons.mp hy with rfl | hy
    · exact h1
    · exact Nat.le_trans h1 ((List.pairwise_cons.mp ih).1 y hy)
theorem sorted_signs {ys : List Str} {l m : List Nat} (h : ys.Perm (l.map S1)) (hs : PyProof.Rows.sortedS ys = true) (hm : l.Perm m) (hp : m.Pairwise (· ≤ ·)) : ys = m.map S1 := by
  obtain ⟨k, rfl⟩ : ∃ k : List Nat, ys = k.map S1 := by
    have : ∀ zs : List Str, (∀ z ∈ zs, z ∈ l.map S1) → ∃ k : List Nat, zs = k.map S1 := fun zs => by
      induction zs with
      | nil => intro _; exact ⟨[], rfl⟩
      | cons z zs ih =>
        intro hz
        obtain ⟨k, rfl⟩ := ih fun y hy => hz y (List.mem_cons_of_mem _ hy)
        obtain ⟨c, _, rfl⟩ := List.mem_map.mp (hz z List.mem_cons_self)
        exact ⟨c :: k, rfl⟩
    exact this ys fun z hz => h.mem_iff.mp hz
  have hk : k.Perm l := by
    have := h.map fun z : Str => z.cps.getD 0 0
    rw [List.map_map, List.map_map] at this
    have e : ∀ q : List Nat, q.map ((fun z : Str => z.cps.getD 0 0) ∘ S1) = q := fun q => List.map_id'' (fun c => rfl) q
    rwa [e, e] at this
  have hpw : k.Pairwise (· ≤ ·) := by
    cases k with
    | nil => exact List.Pairwise.nil
    | cons a r => exact rising_pw r a hs
  congr 1
  refine sorted_uniq (fun a b : Nat => decide (a ≤ b)) (fun x _ y _ a b => Nat.le_antisymm (of_decide_eq_true a) (of_decide_eq_true b)) (hk.trans hm) ?_ ?_
  · exact hpw.imp fun h => decide_eq_true h
  · exact hp.imp fun h => decide_eq_true h
end T23

set_option Elab.async false
set_option linter.all false
set_option maxRecDepth 100000
set_option maxHeartbeats 4000000
namespace T23
open PySem L2 EK LamX
theorem least_ok {CO a : Addr} {H : Hp} {ns : List Int} {Q : VK} {E : XK} (h : permB ns = true) (hl : ns.length ≤ 1000) (ha : H a = some (.tup (ns.map V.int))) (k1 : (dropsM ns).length < 26 → ∀ H', Same H H' → Q (.str (textM ns)) H') (k2 : 26 ≤ (dropsM ns).length → ∀ H', Same H H' → Q .non H') : spLeastT CO [.ref a] H Q E := by
  refine ⟨_, true, rfl, isO_of ha h hl, fun e => (by cases e), fun _ a' ns' e ha' => ?_⟩
  have := tup_same ha e ha'
  subst this
  exact ⟨k1, k2⟩
theorem drops_ok {CO a : Addr} {H : Hp} {ns : List Int} {Q : VK} {E : XK} (h : permB ns = true) (hl : ns.length ≤ 1000) (ha : H a = some (.tup (ns.map V.int))) (k : ∀ p H', H p = none → Same H H' → H' p = some (.lst ((dropsM ns).map V.int)) → Q (.ref p) H') : spDrops CO [.ref a] H Q E := by
  refine ⟨_, true, rfl, isO_of ha h hl, fun e => (by cases e), fun _ a' ns' e ha' => ?_⟩
  have := tup_same ha e ha'
  subst this
  exact k
theorem ordn_ok {CO CN a : Addr} {H : Hp} {ns : List Int} {l : Nat} {Q : VK} {E : XK} (h : permB ns = true) (hl : ns.length ≤ 1000) (ha : H a = some (.tup (ns.map V.int))) (h26 : l ≤ 26) (k : ∀ H', Same H H' → Q (.int (numO ns (l : Nat))) H') : spOrdN CO CN [.ref a, .int (l : Nat)] H Q E := by
  refine ⟨_, _, true, rfl, isO_of ha h hl, .int _, fun e => (by cases e), fun _ e => absurd e ?_, fun _ a' ns' l' e ha' el _ _ => ?_⟩
  · show ¬ (decide ((0 : Int) ≤ (l : Nat)) && decide (((l : Nat) : Int) ≤ 26)) = false
    rw [decide_eq_true (by omega), decide_eq_true (by omega)]
    decide
  · have := tup_same ha e ha'
    subst this
    cases el
    exact k
/-- what the table of ways tells -/
theorem num_due {ns : List Int} (h0 : ns ≠ []) (l : Nat) : numO ns (l : Nat) = if (dropsM ns).length < l then ((ch (l - (dropsM ns).length - 1 + ns.length) ns.length : Nat) : Int) else 0 := by
  unfold numO
  rw [if_neg h0]
  by_cases h : (dropsM ns).length < l
  · rw [if_pos h]
    have e : (ns.length : Int) + ((l : Nat) : Int) - ((dropsM ns).length : Nat) - 1 = ((l - (dropsM ns).length - 1 + ns.length : Nat) : Int) := by omega
    rw [e, comb_ch (by omega)]
  · rw [if_neg h]
    exact PySem.W.mcComb_above (by omega)
theorem take_let : ∀ c, c < 27 → letS.cps.toList.take c = (List.range c).map fun k => 97 + k := by decide +kernel
def lS (ts : List Str) : PyData := .list (ts.map PyData.str)
theorem dp_strs {K : PySem.W.Frag} {H : Hp} : ∀ ts : List Str, DpAll K H (ts.map V.str) (ts.map PyData.str)
  | [] => .nil
  | t :: ts => .cons (.str t) (dp_strs ts)
theorem dp_lS {K : PySem.W.Frag} {H : Hp} {a : Addr} {ts : List Str} (h : SqL K H a (ts.map V.str)) : Dp K H (.ref a) (lS ts) := .lst h (dp_strs ts)
theorem lay_strs : ∀ ts : List Str, (∀ t ∈ ts, PyData.strOk t = true) → PyData.canLayAll0 (ts.map PyData.str) = true
  | [], _ => by simp [PyData.canLayAll0]
  | t :: ts, h => by simp [PyData.canLayAll0, PyData.canLay0, lay_strs ts fun u hu => h u (List.mem_cons_of_mem _ hu), h t List.mem_cons_self]
theorem depth_strs : ∀ ts : List Str, PyData.depthAll (ts.map PyData.str) = 0
  | [] => by simp [PyData.depthAll]
  | t :: ts => by simp [PyData.depthAll, PyData.depth, depth_strs ts]
theorem shaped_lS (ts : List Str) (h : ∀ t ∈ ts, PyData.strOk t = true) : SeqAt.shaped (lS ts) = true := by
  simp [lS, SeqAt.shaped, PyData.canLay0, PyData.depth, lay_strs ts h, depth_strs]
theorem eqvAll_strs : ∀ ts : List Str, PyData.eqvAll (ts.map PyData.str) (ts.map PyData.str) = true
  | [] => by simp [PyData.eqvAll]
  | t :: ts => by simp [PyData.eqvAll, PyData.eqv, eqvAll_strs ts]
theorem same_lS (ts : List Str) : PyData.eqv (lS ts) (lS ts) = true := by
  unfold lS
  simp only [PyData.eqv]
  exact eqvAll_strs ts
theorem dd_all {ns : List Int} (h : permB ns = true) : (ddN (lettersM ns)).Perm ((List.range ((dropsM ns).length + if ns = [] then 0 else 1)).map fun k => 97 + k) := by
  by_cases h0 : ns = []
  · subst h0
    exact List.Perm.refl _
  · rw [if_neg h0]
    exact dd_perm h h0
def spRight (PT : Addr) : Sp := fun vs H Q _ => ∃ (a : Addr) (ns : List Int), vs = [.ref a] ∧ H a = some (.tup (ns.map V.int)) ∧ permB ns = true ∧ ns.length ≤ 301 ∧ Tabs [(PT, qOrd)] H ∧ ∀ H', KeepT H H' → Tabs [(PT, qOrd)] H' → Q (.bl true) H'
abbrev NRT : List Str := ["_law_order", "_law_falls_here", "_law_letters", "_law_due", "_law_text_here", "_law_sign"]
section
variable {P : Program} {w : World} {K : PySem.W.Frag} {mg : Str → Option Value} {base : Heap} {PT CO CN fFA fW fT fD fM fH : Addr} {fdFA fdW fdT fdD fdM fdH : FuncData}
theorem scRight : FnScope NRT ["_law_order"] (defScope sRight) := ⟨rfl, rfl, rfl, by decide +kernel, rfl, by decide +kernel, by decide +kernel⟩
theorem ok_right {f : Addr} {fd : FuncData} (F : Fun K "_law_right" "_law_right" sRight f fd) (T : TxtC K mg)
    (GFA : FnOk P w K mg base CX0 1 fFA fdFA ["_law_order"] spFalls) (gFA : mg "_law_falls" = some (.ref fFA)) (kFA : PySem.W.keepIn K (.ref fFA) = true) (bFA : Binds K fdFA ["_law_order"] [])
    (GW : FnOk P w K mg base CX0 1 fW fdW ["_law_size", "_law_more"] spWays) (gW : mg "_law_ways" = some (.ref fW)) (kW : PySem.W.keepIn K (.ref fW) = true) (bW : Binds K fdW ["_law_size", "_law_more"] [])
    (GT : FnOk P w K mg base (L2.CX P w) 5 fT fdT ["order"] (spLeastT CO)) (gT : mg "least_text" = some (.ref fT)) (kT : PySem.W.keepIn K (.ref fT) = true) (bT : Binds K fdT ["order"] [])
    (GD : FnOk P w K mg base (L2.CX P w) 4 fD fdD ["order"] (spDrops CO)) (gD : mg "drops" = some (.ref fD)) (kD : PySem.W.keepIn K (.ref fD) = true) (bD : Binds K fdD ["order"] [])
    (GM : FnOk P w K mg base (L2.CX P w) 5 fM fdM ["order", "letters"] (spOrdN CO CN)) (gM : mg "orders_number" = some (.ref fM)) (kM : PySem.W.keepIn K (.ref fM) = true) (bM : Binds K fdM ["order", "letters"] [])
    (GH : FnOk P w K mg base (L2.CX P w) 4 fH fdH ["text", "order"] (spHas PT)) (gH : mg "has_order" = some (.ref fH)) (kH : PySem.W.keepIn K (.ref fH) = true) (bH : Binds K fdH ["text", "order"] []) :
    FnOk P w K mg base CX0 6 f fd ["_law_order"] (spRight PT) := by
  refine F.ok scRight (fun vs H Q E h => ?_) (fun cdv A outer s H vs Q E hr h => ?_)
  · obtain ⟨a, ns, rfl, _⟩ := h
    rfl
  · obtain ⟨a, ns, rfl, ha, hp, hl, hT, k⟩ := h
    have nd := scRight.nd
    have hz : sizeLine = 2 ^ 24 := sizeLine_eq
    have hu : (A.deeper (PyProof.Rows.envOfC "_law_right" (defScope sRight) s.heap.objs.size f cdv)).units + 64 < cLine := hr.units
    have hr1 : Room 1 _ := hr.mono (by decide)
    have hr4 : Room 4 _ := hr.mono (by decide)
    have hr5 : Room 5 _ := hr
    refine ⟨_, (pss_cons (ps_set (i := 1) nd rfl (Or.inl rfl) (pe_call GFA hr1 rfl gFA kFA bFA .nil pass0 (pa_cons (pv 0) pa_nil)))
      (pss_cons (ps_if (pt_cmpR (op_neD hu) (pe_call GD hr4 rfl gD kD bD .nil passL (pa_cons (pv 0) pa_nil)) (pv 1) (nomark _)) (pss_one (ps_ret pe_bl)) pss_nil)
      (pss_cons (ps_for PassesOwn.never rfl (pi_tup (pe_tup (pa_cons pe_int (pa_cons pe_int (pa_cons pe_int (pa_cons pe_int (pa_cons pe_int (pa_cons pe_int pa_nil)))))))) (pg_name (i := 2) nd rfl (Or.inl rfl)) (pss_cons (ps_set (i := 3) nd rfl (Or.inl rfl) (pe_ifExp (pt_cmpR op_gt (pv 2) (pe_callB call_len_seq (by rfl) T.len (by decide +kernel) (pa_cons (pv 1) pa_nil)) (nomark _)) (pe_call GW hr1 rfl gW kW bW .nil pass0 (pa_cons (pe_callB call_len_seq (by rfl) T.len (by decide +kernel) (pa_cons (pv 0) pa_nil)) (pa_cons (pe_op op_sub (pe_op op_sub (pv 2) (pe_callB call_len_seq (by rfl) T.len (by decide +kernel) (pa_cons (pv 1) pa_nil))) pe_int) pa_nil))) pe_int))
      (pss_one (ps_if (pt_cmpR op_ne (pe_call GM hr5 rfl gM kM bM .nil passL (pa_cons (pv 0) (pa_cons (pv 2) pa_nil))) (pe_ifExp (pt_cmpR (op_neD hu) (pv 0) (pe_tup pa_nil) (nomark _)) (pv 3) pe_int) (nomark _)) (pss_one (ps_ret pe_bl)) pss_nil))))
      (pss_cons (ps_set (i := 4) nd rfl (Or.inl rfl) (pe_call GT hr5 rfl gT kT bT .nil passL (pa_cons (pv 0) pa_nil)))
      (pss_cons (ps_if (pt_cmpR op_gt (pe_callB call_len_seq (by rfl) T.len (by decide +kernel) (pa_cons (pv 1) pa_nil)) pe_int (nomark _)) (pss_one (ps_ret (pe_cmpR op_isN (pv 4) pe_non (nomark _)))) pss_nil)
      (pss_cons (ps_set (i := 2) nd rfl (Or.inl rfl) (pe_slice sl_str pe_str po_none (po_some (pe_op op_add (pe_callB call_len_seq (by rfl) T.len (by decide +kernel) (pa_cons (pv 1) pa_nil)) (pe_callTy call_int1 (by rfl) T.int (by decide +kernel) (pa_cons (pe_cmpR (op_neD hu) (pv 0) (pe_tup pa_nil) (nomark _)) pa_nil))))))
      (pss_one (ps_ret (pe_and (pe_call GH hr4 rfl gH kH bH .nil passL (pa_cons (pv 4) (pa_cons (pv 0) pa_nil))) (pe_one (pe_cmpR (op_eqD hu) (pe_callB (call_sortedD rfl) (by rfl) T.sorted (by decide +kernel) (pa_cons (pe_callTy (call_dictP rfl) (by rfl) T.dict (by decide +kernel) (pa_cons (pe_lc (own := [("_law_sign", 5)]) (g := gName 5) (tt := tYes) rfl nd (pi_str (pv 4)) (blkOk_by (N := NRT) (sc := defScope sRight) (by decide +kernel)) (fun _ _ _ _ _ => (pg_name (i := 5) nd rfl (Or.inl rfl))) (fun _ _ _ _ _ => pts_nil) (fun _ _ _ _ _ => (pe_tup (pa_cons (pv 5) (pa_cons pe_bl pa_nil))))) pa_nil)) pa_nil)) (pe_callTy (call_listS rfl) (by rfl) T.list (by decide +kernel) (pa_cons (pv 2) pa_nil)) (nomark _)))))))))))), ?_⟩
    have hdl := dropsM_len ns
    refine ⟨_, rfl, a, ns, rfl, ha, hp, by omega, fun p1 H1 n1 s1 A1 => ?_⟩
    refine ⟨_, rfl, ?_⟩
    dsimp only [tNil, List.append_nil]
    refine drops_ok hp (by omega) (s1 _ _ ha) fun p2 H2 n2 s2 A2 => ?_
    refine ⟨_, rfl, lI (dropsM ns), lI (dropsM ns), dp_lI (.of A2), dp_lI (.of (s2 _ _ A1)), shaped_lI _, shaped_lI _, _, rfl, ?_⟩
    rw [eqv_lI, decide_eq_true rfl]
    have ha2 := s2 _ _ (s1 _ _ ha)
    have hf2 := s2 _ _ A1
    have h2all : Same H H2 := s1.trans s2
    refine ⟨(by show 6 ≤ sizeLine; decide), fun p3 z3 => ?_⟩
    obtain ⟨H3, e3, S3, A3⟩ := alloc (o := .tup [.int 0, .int 1, .int 2, .int 5, .int 25, .int 26]) z3
    rw [e3]
    refine ⟨p3, rfl, ⟨_, .of A3⟩, for_tup (K := K) (a := p3) (xs := [.int 0, .int 1, .int 2, .int 5, .int 25, .int 26]) (fun i σ H' => ∃ v2 v3 : Option V, σ = [some (.ref a), some (.ref p1), v2, v3, none, none] ∧ Same H3 H') ⟨none, none, rfl, .refl _⟩ (fun i σ H' _ ⟨_, _, _, s⟩ => .of (s _ _ A3)) ?_ ?_⟩
    · rintro i x σ H4 hi ⟨v2, v3, rfl, s4⟩
      obtain ⟨l, h26, rfl⟩ : ∃ l : Nat, l ≤ 26 ∧ x = V.int (l : Nat) := by
        have hx := List.mem_of_getElem? hi
        simp only [List.mem_cons, List.not_mem_nil, or_false] at hx
        rcases hx with rfl | rfl | rfl | rfl | rfl | rfl
        · exact ⟨0, by decide, rfl⟩
        · exact ⟨1, by decide, rfl⟩
        · exact ⟨2, by decide, rfl⟩
        · exact ⟨5, by decide, rfl⟩
        · exact ⟨25, by decide, rfl⟩
        · exact ⟨26, by decide, rfl⟩
      have ha4 := s4 _ _ (S3 _ _ ha2)
      have hf4 := s4 _ _ (S3 _ _ hf2)
      refine ⟨_, rfl, _, rfl, p1, _, rfl, .inl (.of hf4), _, _, rfl, rfl, _, rfl, ?_⟩
      rw [List.length_map]
      by_cases hgt : (dropsM ns).length < l
      · rw [decide_eq_true (show (((dropsM ns).length : Nat) : Int) < (l : Nat) by omega)]
        refine ⟨_, rfl, a, _, rfl, .inr (.of ha4), _, rfl, _, rfl, p1, _, rfl, .inl (.of hf4), _, _, rfl, rfl, _, _, rfl, rfl, ?_⟩
        rw [List.length_map, List.length_map]
        refine ⟨ns.length, l - (dropsM ns).length - 1, (by rw [show ((l - (dropsM ns).length - 1 : Nat) : Int) = ((l : Nat) : Int) - ((dropsM ns).length : Nat) - 1 by omega]; rfl), by omega, by omega, fun H7 s7 => ?_⟩
        have ha7 := s7 _ _ ha4
        refine ⟨_, rfl, _, rfl, ?_⟩
        dsimp only [tNil, List.append_nil]
        refine ordn_ok hp (by omega) ha7 h26 fun H5 s5 => ?_
        refine ⟨_, rfl, (by show 0 ≤ sizeLine; decide), fun p6 z6 => ?_⟩
        obtain ⟨H6, e6, S6, A6⟩ := alloc (o := .tup []) z6
        rw [e6]
        refine ⟨tI ns, tI [], dp_tI (.of (S6 _ _ (s5 _ _ ha7))), dp_tI (.of A6), shaped_tI _, shaped_tI _, _, rfl, ?_⟩
        rw [eqv_tI]
        by_cases h0 : ns = []
        · rw [decide_eq_true h0]
          refine ⟨rfl, _, rfl, ?_⟩
          have e1 : numO ns (l : Nat) = 1 := if_pos h0
          rw [e1, decide_eq_true rfl]
          exact ⟨_, _, rfl, fun b o e => S6 _ _ (s5 _ _ ((s4.trans s7) _ _ e))⟩
        · rw [decide_eq_false h0]
          refine ⟨_, rfl, rfl, _, rfl, ?_⟩
          have e1 := num_due h0 l
          rw [if_pos hgt] at e1
          rw [e1, decide_eq_true rfl]
          exact ⟨_, _, rfl, fun b o e => S6 _ _ (s5 _ _ ((s4.trans s7) _ _ e))⟩
      · rw [decide_eq_false (show ¬ ((((dropsM ns).length : Nat) : Int) < (l : Nat)) by omega)]
        refine ⟨_, rfl, _, rfl, ?_⟩
        dsimp only [tNil, List.append_nil]
        refine ordn_ok hp (by omega) ha4 h26 fun H5 s5 => ?_
        refine ⟨_, rfl, (by show 0 ≤ sizeLine; decide), fun p6 z6 => ?_⟩
        obtain ⟨H6, e6, S6, A6⟩ := alloc (o := .tup []) z6
        rw [e6]
        refine ⟨tI ns, tI [], dp_tI (.of (S6 _ _ (s5 _ _ ha4))), dp_tI (.of A6), shaped_tI _, shaped_tI _, _, rfl, ?_⟩
        rw [eqv_tI]
        by_cases h0 : ns = []
        · rw [decide_eq_true h0]
          refine ⟨rfl, _, rfl, ?_⟩
          have e1 : numO ns (l : Nat) = 1 := if_pos h0
          rw [e1, decide_eq_true rfl]
          exact ⟨_, _, rfl, fun b o e => S6 _ _ (s5 _ _ (s4 _ _ e))⟩
        · rw [decide_eq_false h0]
          refine ⟨_, rfl, rfl, _, rfl, ?_⟩
          have e1 := num_due h0 l
          rw [if_neg hgt] at e1
          rw [e1, decide_eq_true rfl]
          exact ⟨_, _, rfl, fun b o e => S6 _ _ (s5 _ _ (s4 _ _ e))⟩
    · rintro σ H4 ⟨v2, v3, rfl, s4⟩
      have ha4 := s4 _ _ (S3 _ _ ha2)
      have hf4 := s4 _ _ (S3 _ _ hf2)
      have s04 : Same H H4 := fun b o e => s4 _ _ (S3 _ _ (h2all _ _ e))
      refine ⟨_, rfl, ?_⟩
      dsimp only [tNil, List.append_nil]
      refine least_ok hp (by omega) ha4 (fun hd H5 s5 => ?_) (fun hd H5 s5 => ?_)
      · have hf5 := s5 _ _ hf4
        have ha5 := s5 _ _ ha4
        refine ⟨_, rfl, p1, _, rfl, .inl (.of hf5), _, _, rfl, rfl, _, rfl, ?_⟩
        rw [List.length_map, decide_eq_false (show ¬ ((25 : Int) < ((dropsM ns).length : Nat)) by omega)]
        obtain ⟨ht1, ht2⟩ := text_has hp hd
        have ht3 := textM_letters hp hd
        have htl : (textM ns).cps.toList.length = ns.length := by rw [ht3, letters_len]
        have htz : (textM ns).cps.size = (textM ns).cps.toList.length := Array.length_toList.symm
        have hlet : ∀ c ∈ (textM ns).cps.toList, c ∈ letS.cps.toList := fun c hc => by
          rw [ht3] at hc
          obtain ⟨q, hq, rfl⟩ := List.mem_map.mp hc
          obtain ⟨j, hj, rfl⟩ := sig_sur hp (List.mem_range.mp hq)
          rw [rk_sig hp hj, Int.toNat_natCast]
          have := ltNum_lt (ns := ns) hj
          have h9 : 97 + ltNum ns j ∈ letS.cps.toList.take 26 := by
            rw [take_let 26 (by decide)]
            exact List.mem_map.mpr ⟨_, List.mem_range.mpr (by omega), rfl⟩
          exact List.mem_of_mem_take h9
        have hTx : isT (textM ns) = true := List.all_eq_true.mpr fun c hc => decide_eq_true (hlet c hc)
        have s05 : Same H H5 := fun b o e => s5 _ _ (s04 _ _ e)
        have hT5 : Tabs [(PT, qOrd)] H5 := hT.ext s05
        refine ⟨_, rfl, p1, _, rfl, .inl (.of hf5), _, rfl, (by show 0 ≤ sizeLine; decide), fun p6 z6 => ?_⟩
        obtain ⟨H6, e6, S6, A6⟩ := alloc (o := .tup []) z6
        rw [e6]
        refine ⟨tI ns, tI [], dp_tI (.of (S6 _ _ ha5)), dp_tI (.of A6), shaped_tI _, shaped_tI _, ?_⟩
        rw [eqv_tI]
        refine .inr ⟨_, rfl, ?_⟩
        refine ⟨_, _, rfl, rfl, _, rfl, letS, rfl, (by decide), ?_⟩
        have hcut : (((dropsM ns).map V.int).length : Int) + (if (!decide (ns = [])) = true then 1 else 0) = (((dropsM ns).length + if ns = [] then 0 else 1 : Nat) : Int) := by
          rw [List.length_map]
          by_cases h0 : ns = []
          · simp [h0]
          · simp [h0]
        generalize hcc : ((dropsM ns).length + if ns = [] then 0 else 1) = cc at hcut
        have hcc26 : cc < 27 := by
          rw [← hcc]
          split <;> omega
        have hz2 : (cutS letS none (some ((((dropsM ns).map V.int).length : Int) + (if (!decide (ns = [])) = true then 1 else 0)))).cps.toList = (List.range cc).map fun k => 97 + k := by
          rw [hcut, cutS_take, take_let _ hcc26]
        generalize hz3 : cutS letS none (some ((((dropsM ns).map V.int).length : Int) + (if (!decide (ns = [])) = true then 1 else 0))) = z2 at hz2
        have ha6 := S6 _ _ ha5
        refine ⟨_, rfl, _, rfl, textM ns, a, ns, rfl, by omega, hTx, ha6, hp, by omega, hT5.ext S6, fun H7 k7 m7 T7 => ?_⟩
        rw [ht1, decide_eq_true rfl]
        have k67 : KeepT H6 H7 := ⟨k7, m7⟩
        refine ⟨_, rfl, ?_⟩
        rw [if_pos rfl]
        refine ⟨_, rfl, textM ns, rfl, fun D nD => lc_it (walk_str (z := textM ns)) (fun i H' => Same H7 H' ∧ ∃ ps : List Addr, H' D = some (.lst (ps.map V.ref)) ∧ Paired (fun p kv => H' p = some (.tup [kV kv.1, kv.2])) ps (((textM ns).cps.toList.take i).map kvS)) ⟨fun b o e => by rw [upd_ne (ne_of_none e nD)]; exact e, [], upd_same, .nil⟩ (fun _ _ _ _ => trivial) ?_ ?_⟩
        · rintro i y H8 H9 hi ⟨s8, ps, d8, pr8⟩ ⟨rfl, c, hc, rfl⟩
          have hc' : (textM ns).cps.toList[i]? = some c := by rw [Array.getElem?_toList]; exact hc
          have hpl := pr8.length
          rw [List.length_map, List.length_take] at hpl
          refine ⟨rfl, _, rfl, (by show 2 ≤ sizeLine; decide), fun q nq => ?_⟩
          obtain ⟨H10, e10, S10, A10⟩ := alloc (o := .tup [V.str ⟨#[c]⟩, V.bl true]) nq
          rw [e10]
          have hqD : q ≠ D := fun e => by rw [e, d8] at nq; cases nq
          have hne : ∀ b o, H10 b = some o → b ≠ D → upd H10 D (.lst (ps.map V.ref ++ [V.ref q])) b = some o := fun b o e h => by rw [upd_ne h]; exact e
          refine ⟨_, S10 _ _ d8, by rw [List.length_map]; omega, fun b o e => hne _ _ (S10 _ _ (s8 _ _ e)) (fun z => by rw [z, nD] at e; cases e), ps ++ [q], by rw [upd_same, List.map_append]; rfl, ?_⟩
          rw [List.take_succ, hc', List.map_append]
          refine Paired.snoc (L2.Paired.mapP pr8 fun p kv r => ?_) (hne _ _ A10 hqD)
          exact hne _ _ (S10 _ _ r) (fun z => by rw [z, d8] at r; cases r)
        · rintro H8 ⟨s8, ps, d8, pr8⟩
          rw [List.take_of_length_le (by omega)] at pr8
          refine ⟨D, ps, _, rfl, .of d8, L2.Paired.mapP pr8 (fun p kv r => .of r), fun p9 n9 => ?_⟩
          rw [merge_kvS, ht3]
          obtain ⟨H9, e9, S9, A9⟩ := alloc (o := .dK ((ddN (lettersM ns)).map kvS)) n9
          rw [e9]
          have hdd := dd_all hp
          rw [hcc] at hdd
          have hdl2 := hdd.length_eq
          rw [List.length_map, List.length_range] at hdl2
          refine ⟨p9, _, (ddN (lettersM ns)).map S1, rfl, .inl A9, (by rw [List.map_map, List.map_map]; rfl), (by rw [List.length_map]; omega), fun ys p10 hperm hsort n10 => ?_⟩
          have hys := sorted_signs hperm hsort hdd (by rw [List.pairwise_map]; exact List.pairwise_lt_range.imp fun h => by omega)
          rw [hys]
          obtain ⟨H10, e10, S10, A10⟩ := alloc (o := .lst ((((List.range cc).map fun k => 97 + k).map S1).map V.str)) n10
          rw [e10]
          have hsz : z2.cps.size ≤ 1000 := by
            rw [← Array.length_toList, hz2, List.length_map, List.length_range]
            omega
          refine ⟨_, rfl, z2, rfl, hsz, fun p11 n11 => ?_⟩
          rw [hz2]
          have em : (((List.range cc).map fun k => 97 + k).map fun c => V.str ⟨#[c]⟩) = (((List.range cc).map fun k => 97 + k).map S1).map V.str := by
            rw [List.map_map (g := V.str)]
            rfl
          rw [em]
          obtain ⟨H11, e11, S11, A11⟩ := alloc (o := .lst ((((List.range cc).map fun k => 97 + k).map S1).map V.str)) n11
          rw [e11]
          have hso : ∀ t ∈ ((List.range cc).map fun k => 97 + k).map S1, PyData.strOk t = true := fun t ht => by
            obtain ⟨c, hc, rfl⟩ := List.mem_map.mp ht
            obtain ⟨q, hq, rfl⟩ := List.mem_map.mp hc
            have hq := List.mem_range.mp hq
            unfold PyData.strOk
            rw [Array.all_eq_true']
            intro x hx
            have : x = 97 + q := List.mem_singleton.mp (Array.mem_toList_iff.mpr hx)
            subst this
            exact decide_eq_true (by omega)
          refine ⟨lS _, lS _, dp_lS (.of (S11 _ _ A10)), dp_lS (.of A11), shaped_lS _ hso, shaped_lS _ hso, ?_⟩
          rw [same_lS]
          have s7e : Same H7 H11 := fun b o e => S11 _ _ (S10 _ _ (S9 _ _ (s8 _ _ e)))
          exact k H11 ((KeepT.of fun b o e => S6 _ _ (s05 _ _ e)).trans (k67.trans (.of s7e))) (T7.ext s7e)
      · have hf5 := s5 _ _ hf4
        refine ⟨_, rfl, p1, _, rfl, .inl (.of hf5), _, _, rfl, rfl, _, rfl, ?_⟩
        rw [List.length_map, decide_eq_true (show (25 : Int) < ((dropsM ns).length : Nat) by omega)]
        refine ⟨_, rfl, rfl, ?_⟩
        rw [decide_eq_true rfl]
        exact k H5 (.of fun b o e => s5 _ _ (s04 _ _ e)) (hT.ext fun b o e => s5 _ _ (s04 _ _ e))
end
end T23

set_option Elab.async false
set_option linter.all false
set_option maxRecDepth 100000
set_option maxHeartbeats 4000000
namespace T23
open PySem L2 EK LamX
theorem permB_ord (z : Str) : permB (ordM z) = true := by
  have e : ((List.range z.length).map fun i => (0 : Int) + (i : Nat) * 1) = rangeI z.length := List.map_congr_left fun i _ => by omega
  have hp : (ordM z).Perm (rangeI z.length) := by
    unfold ordM
    rw [e]
    exact isort_perm _ _
  have hl : (ordM z).length = z.length := by rw [hp.length_eq, rangeI_len]
  unfold permB
  rw [hl]
  refine decide_eq_true (sort_is hp.symm ?_).symm
  unfold rangeI
  rw [List.pairwise_map]
  exact List.pairwise_lt_range.imp fun h => by omega
theorem tabs_but {T : List (Addr × Str)} {H H' : Hp} {a : Addr} (t : Tabs T H) (ha : ∀ o, H a = some o → ∃ xs, o = .lst xs) (s : ∀ b o, H b = some o → b ≠ a → H' b = some o) : Tabs T H' := fun p hp => by
  obtain ⟨ps, h1, h2, h3⟩ := t p hp
  refine ⟨ps, s _ _ h1 fun e => ?_, h2, fun pos cv hc => ?_⟩
  · obtain ⟨xs, q⟩ := ha _ (by rw [← e]; exact h1)
    cases q
  · obtain ⟨c, e1, e2⟩ := h3 pos cv hc
    refine ⟨c, e1, s _ _ e2 fun e => ?_⟩
    obtain ⟨xs, q⟩ := ha _ (by rw [← e]; exact e2)
    unfold CodeO at q
    cases q
theorem UrnAt.lst {H : Hp} {a : Addr} {n : Int} (h : UrnAt H a n) : ∀ o, H a = some o → ∃ xs, o = .lst xs := fun o e => by
  obtain ⟨w0, w1, w2, h1, h2⟩ := h
  rw [h1] at e
  cases e
  exact ⟨_, rfl⟩
theorem UrnAt.keepL {H H' : Hp} {a : Addr} {n : Int} (h : UrnAt H a n) (s : ∀ xs, H a = some (.lst xs) → H' a = some (.lst xs)) : UrnAt H' a n := by
  obtain ⟨w0, w1, w2, h1, h2⟩ := h
  exact ⟨w0, w1, w2, s _ h1, h2⟩
theorem cut_take (ns : List Int) (j : Nat) : cutV (ns.map V.int) none (some (j : Int)) = (ns.take j).map V.int := by
  unfold cutV
  rw [HT.sIx_nat, HT.sIx_none, List.drop_zero, Nat.sub_zero, List.map_take, List.length_map]
  by_cases h : j ≤ ns.length
  · rw [Nat.min_eq_left h]
  · rw [Nat.min_eq_right (by omega), List.take_of_length_le (by rw [List.length_map]; omega), List.take_of_length_le (by rw [List.length_map]; omega)]
theorem rtup_T {H H' : Hp} {x : V} {ns : List Int} (k : KeepT H H') (r : RTup H x ns) : RTup H' x ns := by
  obtain ⟨p, rfl, e⟩ := r
  exact ⟨p, rfl, k.tup e⟩
theorem rtup_urn {H H' : Hp} {a : Addr} {n : Int} {x : V} {ns : List Int} (hw : UrnAt H a n) (k : KeepB a H H') (r : RTup H x ns) : RTup H' x ns := by
  obtain ⟨p, rfl, e⟩ := r
  refine ⟨p, rfl, k _ _ e fun z => ?_⟩
  obtain ⟨w0, w1, w2, h1, _⟩ := hw
  rw [z, h1] at e
  cases e
theorem rtup_S {H H' : Hp} {x : V} {ns : List Int} (s : Same H H') (r : RTup H x ns) : RTup H' x ns := by
  obtain ⟨p, rfl, e⟩ := r
  exact ⟨p, rfl, s _ _ e⟩
set_option maxRecDepth 1000000 in
theorem facts : (dropsM (tfM 27)).length = 26 ∧ textM (rangeI 40) = (repS "a" 39 ++ "b" : Str) ∧ (dropsM (rangeI 40)).length < 26 := by decide +kernel
theorem range_perm (m : Nat) : permB (rangeI m) = true := by
  refine permB_of ?_
  rw [rangeI_len]
/-- good orders -/
def GoodO (ns : List Int) : Prop := permB ns = true ∧ ns.length ≤ 301
def Good (H : Hp) (x : V) : Prop := ∃ (p : Addr) (ns : List Int), x = .ref p ∧ H p = some (.tup (ns.map V.int)) ∧ permB ns = true ∧ ns.length ≤ 301
theorem good_S {H H' : Hp} {x : V} (s : Same H H') (g : Good H x) : Good H' x := by
  obtain ⟨p, ns, rfl, e, h⟩ := g
  exact ⟨p, ns, rfl, s _ _ e, h⟩
theorem good_T {H H' : Hp} {x : V} (k : KeepT H H') (g : Good H x) : Good H' x := by
  obtain ⟨p, ns, rfl, e, h⟩ := g
  exact ⟨p, ns, rfl, k.tup e, h⟩
theorem good_B {H H' : Hp} {a : Addr} {n : Int} {x : V} (hw : UrnAt H a n) (k : KeepB a H H') (g : Good H x) : Good H' x := by
  obtain ⟨p, ns, rfl, e, h⟩ := g
  refine ⟨p, ns, rfl, k _ _ e fun z => ?_, h⟩
  obtain ⟨w0, w1, w2, h1, _⟩ := hw
  rw [z, h1] at e
  cases e
def spLaw (K : PySem.W.Frag) (PT : Addr) : Sp := fun vs H Q _ => ∃ (a : Addr) (ns : List Int), vs = [.ref a] ∧ SqL K H a (ns.map V.int) ∧ ns.length ≤ 63 ∧ H PT = some (.tbl #[]) ∧ ∀ H', Q (.bl true) H'
abbrev NL : List Str := ["_law_script", "_law_cell", "_law_urn_here", "_law_size", "_law_some", "_law_k", "_law_order"]
section
variable {P : Program} {w : World} {K : PySem.W.Frag} {mg : Str → Option Value} {base : Heap} {PT CO fU fP fX fSH fR fOO fT fD fNE fTF : Addr} {fdU fdP fdX fdSH fdR fdOO fdT fdD fdNE fdTF : FuncData}
theorem scLaw : FnScope NL ["_law_script"] (defScope sLaw) := ⟨rfl, rfl, rfl, by decide +kernel, rfl, by decide +kernel, by decide +kernel⟩
theorem ok_law {f : Addr} {fd : FuncData} (F : Fun K "law" "law" sLaw f fd) (T : TxtC K mg)
    (GU : FnOk P w K mg base CX0 1 fU fdU ["_law_cell"] spUrn) (gU : mg "_law_urn" = some (.ref fU)) (kU : PySem.W.keepIn K (.ref fU) = true) (bU : Binds K fdU ["_law_cell"] [])
    (GP : FnOk P w K mg base CX0 1 fP fdP ["_law_urn_here", "_law_many"] spPull) (gP : mg "_law_pull" = some (.ref fP)) (kP : PySem.W.keepIn K (.ref fP) = true) (bP : Binds K fdP ["_law_urn_here", "_law_many"] [])
    (GX : FnOk P w K mg base CX0 3 fX fdX ["_law_urn_here", "_law_most"] spText) (gX : mg "_law_text" = some (.ref fX)) (kX : PySem.W.keepIn K (.ref fX) = true) (bX : Binds K fdX ["_law_urn_here", "_law_most"] [])
    (GSH : FnOk P w K mg base CX0 2 fSH fdSH ["_law_urn_here", "_law_size"] spShuffled) (gSH : mg "_law_shuffled" = some (.ref fSH)) (kSH : PySem.W.keepIn K (.ref fSH) = true) (bSH : Binds K fdSH ["_law_urn_here", "_law_size"] [])
    (GNE : FnOk P w K mg base CX0 2 fNE fdNE ["_law_urn_here", "_law_size"] spNearly) (gNE : mg "_law_nearly" = some (.ref fNE)) (kNE : PySem.W.keepIn K (.ref fNE) = true) (bNE : Binds K fdNE ["_law_urn_here", "_law_size"] [])
    (GTF : FnOk P w K mg base CX0 1 fTF fdTF ["_law_size"] spTF) (gTF : mg "_law_to_and_fro" = some (.ref fTF)) (kTF : PySem.W.keepIn K (.ref fTF) = true) (bTF : Binds K fdTF ["_law_size"] [])
    (GR : FnOk P w K mg base CX0 6 fR fdR ["_law_order"] (spRight PT)) (gR : mg "_law_right" = some (.ref fR)) (kR : PySem.W.keepIn K (.ref fR) = true) (bR : Binds K fdR ["_law_order"] [])
    (GOO : FnOk P w K mg base CX0 3 fOO fdOO ["text"] (spOrderOf PT)) (gOO : mg "order_of" = some (.ref fOO)) (kOO : PySem.W.keepIn K (.ref fOO) = true) (bOO : Binds K fdOO ["text"] [])
    (GT : FnOk P w K mg base (L2.CX P w) 5 fT fdT ["order"] (spLeastT CO)) (gT : mg "least_text" = some (.ref fT)) (kT : PySem.W.keepIn K (.ref fT) = true) (bT : Binds K fdT ["order"] [])
    (GD : FnOk P w K mg base (L2.CX P w) 4 fD fdD ["order"] (spDrops CO)) (gD : mg "drops" = some (.ref fD)) (kD : PySem.W.keepIn K (.ref fD) = true) (bD : Binds K fdD ["order"] []) :
    FnOk P w K mg base CX0 7 f fd ["_law_script"] (spLaw K PT) := by
  refine F.ok scLaw (fun vs H Q E h => ?_) (fun cdv A outer s H vs Q E hr h => ?_)
  · obtain ⟨a, ns, rfl, _⟩ := h
    rfl
  · obtain ⟨a, ns, rfl, hS, hlen, hPT, k⟩ := h
    have nd := scLaw.nd
    have hz : sizeLine = 2 ^ 24 := sizeLine_eq
    have hu : (A.deeper (PyProof.Rows.envOfC "law" (defScope sLaw) s.heap.objs.size f cdv)).units + 64 < cLine := hr.units
    have hr1 : Room 1 _ := hr.mono (by decide)
    have hr2 : Room 2 _ := hr.mono (by decide)
    have hr3 : Room 3 _ := hr.mono (by decide)
    have hr4 : Room 4 _ := hr.mono (by decide)
    have hr5 : Room 5 _ := hr.mono (by decide)
    have hr6 : Room 6 _ := hr
    refine ⟨_, (pss_cons (ps_for PassesOwn.never rfl (pi_list (pe_op op_cat (pe_slice sl_list (pv 0) po_none (po_some pe_int)) (pe_lst (pa_cons pe_int pa_nil)))) (pg_name (i := 1) nd rfl (Or.inl rfl)) (pss_cons (ps_set (i := 2) nd rfl (Or.inl rfl) (pe_call GU hr1 rfl gU kU bU .nil pass0 (pa_cons (pv 1) pa_nil)))
      (pss_cons (ps_set (i := 3) nd rfl (Or.inr rfl) (pe_call GP hr1 rfl gP kP bP .nil pass0 (pa_cons (pv 2) (pa_cons pe_int pa_nil))))
      (pss_cons (ps_set (i := 4) nd rfl (Or.inl rfl) (pe_lst (pa_cons (pe_call GSH hr2 rfl gSH kSH bSH .nil pass0 (pa_cons (pv 2) (pa_cons (pe_call GP hr1 rfl gP kP bP .nil pass0 (pa_cons (pv 2) (pa_cons pe_int pa_nil))) pa_nil))) (pa_cons (pe_call GOO hr3 rfl gOO kOO bOO .nil pass0 (pa_cons (pe_call GX hr3 rfl gX kX bX .nil pass0 (pa_cons (pv 2) (pa_cons pe_int pa_nil))) pa_nil)) (pa_cons (pe_call GNE hr2 rfl gNE kNE bNE .nil pass0 (pa_cons (pv 2) (pa_cons (pv 3) pa_nil))) pa_nil)))))
      (pss_cons (ps_set (i := 4) nd rfl (Or.inl rfl) (pe_op op_cat (pv 4) (pe_lst (pa_cons (pe_callTy call_tuple_of (by rfl) T.tuple (by decide +kernel) (pa_cons (pe_lc (own := [("_law_k", 5)]) (g := gName 5) (tt := tYes) rfl nd (pi_range1 (by rfl) T.range (pa_cons (pv 3) pa_nil)) (blkOk_by (N := NL) (sc := defScope sLaw) (by decide +kernel)) (fun _ _ _ _ _ => (pg_name (i := 5) nd rfl (Or.inl rfl))) (fun _ _ _ _ _ => pts_nil) (fun _ _ _ _ _ => (pe_op op_sub (pe_op op_sub (pv 3) pe_int) (pv 5)))) pa_nil)) (pa_cons (pe_callTy call_tuple_of (by rfl) T.tuple (by decide +kernel) (pa_cons (pe_lc (own := [("_law_k", 5)]) (g := gName 5) (tt := tYes) rfl nd (pi_range1 (by rfl) T.range (pa_cons (pv 3) pa_nil)) (blkOk_by (N := NL) (sc := defScope sLaw) (by decide +kernel)) (fun _ _ _ _ _ => (pg_name (i := 5) nd rfl (Or.inl rfl))) (fun _ _ _ _ _ => pts_nil) (fun _ _ _ _ _ => (pv 5))) pa_nil)) pa_nil)))))
      (pss_cons (ps_set (i := 4) nd rfl (Or.inl rfl) (pe_op op_cat (pv 4) (pe_lst (pa_cons (pe_call GTF hr1 rfl gTF kTF bTF .nil pass0 (pa_cons (pe_op op_add pe_int (pe_call GP hr1 rfl gP kP bP .nil pass0 (pa_cons (pv 2) (pa_cons pe_int pa_nil)))) pa_nil)) (pa_cons (pe_call GTF hr1 rfl gTF kTF bTF .nil pass0 (pa_cons pe_int pa_nil)) (pa_cons (pe_call GTF hr1 rfl gTF kTF bTF .nil pass0 (pa_cons pe_int pa_nil)) pa_nil))))))
      (pss_one (ps_if (pt_cmpR (op_neD hu) (pe_lc (own := [("_law_order", 6)]) (g := gName 6) rfl nd (pi_list (pv 4)) (blkOk_by (N := NL) (sc := defScope sLaw) (by decide +kernel)) (fun _ _ _ _ _ => (pg_name (i := 6) nd rfl (Or.inl rfl))) (fun _ _ _ _ _ => (pts_one (pt_not (pt_val (pe_call GR hr6 rfl gR kR bR .nil pass0 (pa_cons (pv 6) pa_nil)))))) (fun _ _ _ _ _ => (pv 6))) (pe_lst pa_nil) (nomark _)) (pss_one (ps_ret pe_bl)) pss_nil))))))))
      (pss_cons (ps_if (PW.pt (pw_or (pt_cmpR op_ne (pe_callB call_len_seq (by rfl) T.len (by decide +kernel) (pa_cons (pe_call GD hr4 rfl gD kD bD .nil passL (pa_cons (pe_call GTF hr1 rfl gTF kTF bTF .nil pass0 (pa_cons pe_int pa_nil)) pa_nil)) pa_nil)) pe_int (nomark _)) (pw_or1 (pt_cmpR op_notN (pe_call GT hr5 rfl gT kT bT .nil passL (pa_cons (pe_call GTF hr1 rfl gTF kTF bTF .nil pass0 (pa_cons pe_int pa_nil)) pa_nil)) pe_non (nomark _))))) (pss_one (ps_ret pe_bl)) pss_nil)
      (pss_one (ps_ret (pe_cmpR op_eq (pe_call GT hr5 rfl gT kT bT .nil passL (pa_cons (pe_callTy call_tuple_of (by rfl) T.tuple (by decide +kernel) (pa_cons (pe_lc (own := [("_law_k", 5)]) (g := gName 5) (tt := tYes) rfl nd (pi_range1 (by rfl) T.range (pa_cons pe_int pa_nil)) (blkOk_by (N := NL) (sc := defScope sLaw) (by decide +kernel)) (fun _ _ _ _ _ => (pg_name (i := 5) nd rfl (Or.inl rfl))) (fun _ _ _ _ _ => pts_nil) (fun _ _ _ _ _ => (pv 5))) pa_nil)) pa_nil)) (pe_op op_add_str (pe_op op_mulS pe_str pe_int) pe_str) (nomark _)))))), ?_⟩
    have hT0 : Tabs [(PT, qOrd)] H := fun p hp => by
      rw [List.mem_singleton.mp hp]
      exact TabS.nil hPT
    obtain ⟨ft1, ft2, ft3⟩ := facts
    refine ⟨_, rfl, 3, rfl, a, _, rfl, hS, fun p0 z0 => ?_⟩
    rw [show (some 3 : Option Int) = some ((3 : Nat) : Int) from rfl, cut_take]
    obtain ⟨H0, e0, S0, A0⟩ := alloc (o := .lst ((ns.take 3).map V.int)) z0
    rw [e0]
    refine ⟨(by show 1 ≤ sizeLine; decide), fun p1 z1 => ?_⟩
    obtain ⟨H1, e1, S1, A1⟩ := alloc (o := .lst [.int 0]) z1
    rw [e1]
    refine ⟨p0, p1, _, _, rfl, rfl, S1 _ _ A0, A1, (by rw [List.length_map, List.length_take]; show _ + 1 ≤ _; omega), fun p2 z2 => ?_⟩
    have em : (ns.take 3).map V.int ++ [V.int 0] = (ns.take 3 ++ [0]).map V.int := by rw [List.map_append]; rfl
    rw [em]
    obtain ⟨H2, e2, S2, A2⟩ := alloc (o := .lst ((ns.take 3 ++ [0]).map V.int)) z2
    rw [e2]
    generalize hcs : ns.take 3 ++ [0] = cs at A2
    refine ⟨p2, rfl, ⟨_, .of A2⟩, for_list (K := K) (a := p2) (xs := cs.map V.int) (fun i σ H' => ∃ v1 v2 v3 v4 : Option V, σ = [some (.ref a), v1, v2, v3, v4, none, none] ∧ H' p2 = some (.lst (cs.map V.int)) ∧ Tabs [(PT, qOrd)] H') ⟨none, none, none, none, rfl, A2, hT0.ext fun b o e => S2 _ _ (S1 _ _ (S0 _ _ e))⟩ (fun i σ H' _ ⟨_, _, _, _, _, s, _⟩ => .of s) ?_ ?_⟩
    · rintro i x σ H3 hi ⟨v1, v2, v3, v4, rfl, h2, hT3⟩
      obtain ⟨c, hc, rfl⟩ : ∃ c, cs[i]? = some c ∧ V.int c = x := by
        rw [List.getElem?_map] at hi
        cases h : cs[i]? with
        | none => rw [h] at hi; cases hi
        | some t => rw [h] at hi; exact ⟨t, rfl, Option.some.inj hi⟩
      refine ⟨_, rfl, c, rfl, fun wl H4 nwl hw4 s4 => ?_⟩
      have hp2 : p2 ≠ wl := fun e => by rw [← e, h2] at nwl; cases nwl
      have t4 : Tabs [(PT, qOrd)] H4 := hT3.ext s4
      refine ⟨_, rfl, wl, 301, _, rfl, hw4, by omega, by decide, by decide, fun d5 H5 d50 d51 hw5 hk5 => ?_⟩
      obtain ⟨m, rfl⟩ : ∃ m : Nat, d5 = (m : Int) := ⟨d5.toNat, by omega⟩
      refine ⟨_, rfl, _, rfl, wl, 101, _, rfl, hw5, by omega, by decide, by decide, fun d6 H6 d60 d61 hw6 hk6 => ?_⟩
      obtain ⟨j, rfl⟩ : ∃ m : Nat, d6 = (m : Int) := ⟨d6.toNat, by omega⟩
      refine ⟨wl, _, j, rfl, hw6, by omega, by omega, fun p7 ns7 H7 hp7 hl7 A7 hw7 hk7 => ?_⟩
      have g7 : Good H7 (.ref p7) := ⟨p7, ns7, rfl, A7, hp7, by omega⟩
      refine ⟨_, rfl, wl, _, 80, rfl, hw7, by omega, by decide, fun y H8 hy hw8 hk8 => ?_⟩
      have hyb := hy.len
      have hTy : isT y = true := List.all_eq_true.mpr fun c hc => decide_eq_true (hy.let_ c hc)
      have hyz : y.length = y.cps.toList.length := Array.length_toList.symm
      have hyc : y.cps.size = y.cps.toList.length := Array.length_toList.symm
      have t8 := tabs_but (tabs_but (tabs_but (tabs_but t4 hw4.lst hk5) hw5.lst hk6) hw6.lst hk7) hw7.lst hk8
      refine ⟨y, rfl, by omega, hTy, t8, fun p9 H9 k9 m9 t9 A9 => ?_⟩
      have kt9 : KeepT H8 H9 := ⟨k9, m9⟩
      have hol : (ordM y).length = y.length := by rw [ordM_ordN, List.length_map, show (ordN y).length = (List.range y.length).length from (isort_perm _ _).length_eq, List.length_range]
      have g9 : Good H9 (.ref p9) := ⟨p9, ordM y, rfl, A9, permB_ord y, by omega⟩
      have g79 := good_T kt9 (good_B hw7 hk8 g7)
      have hw9 := hw8.keepL fun xs e => kt9.lst e
      refine ⟨_, rfl, _, rfl, wl, _, m, rfl, hw9, by omega, by omega, fun p10 ns10 H10 hp10 hl10 A10 hw10 hk10 => ?_⟩
      have g10 : Good H10 (.ref p10) := ⟨p10, ns10, rfl, A10, hp10, by omega⟩
      have g710 := good_B hw9 hk10 g79
      have g910 := good_B hw9 hk10 g9
      have h210 := hk10 _ _ (kt9.lst (hk8 _ _ (hk7 _ _ (hk6 _ _ (hk5 _ _ (s4 _ _ h2) hp2) hp2) hp2) hp2)) hp2
      have t10 := tabs_but t9 hw9.lst hk10
      refine ⟨(by show 3 ≤ sizeLine; decide), fun q11 z11 => ?_⟩
      obtain ⟨H11, e11, S11, A11⟩ := alloc (o := .lst [.ref p7, .ref p9, .ref p10]) z11
      rw [e11]
      refine ⟨_, rfl, _, rfl, _, rfl, by omega, by omega, fun D nD => ?_⟩
      rw [Int.toNat_natCast]
      refine lcM_range (R' := RInt) (n := m) (fun _ => true) (fun k => ((m : Nat) : Int) - 1 - ((0 : Int) + (k : Nat))) nD rint_keep (by omega) ?_ ?_
      · intro kk H12 C C0 hkk s12 c1 _
        exact ⟨rfl, _, rfl, _, _, rfl, rfl, _, rfl, _, _, rfl, rfl, c1 rfl _ _ (fun _ _ e => e) rfl⟩
      intro ws H12 s12 hD hws
      rw [List.filter_eq_self.mpr fun _ _ => rfl] at hws
      have hD : H12 D = some (.lst ((downI m).map V.int)) := by rw [hD, rint_map hws]; rfl
      refine ⟨D, _, rfl, .inl ⟨.of hD, fun p13 z13 => ?_⟩⟩
      obtain ⟨H13, e13, S13, A13⟩ := alloc (o := .tup ((downI m).map V.int)) z13
      rw [e13]
      have g13 : Good H13 (.ref p13) := ⟨p13, downI m, rfl, A13, downI_perm m, by rw [downI_len]; omega⟩
      refine ⟨_, rfl, _, rfl, by omega, by omega, fun D2 nD2 => ?_⟩
      rw [Int.toNat_natCast]
      refine lcM_range (R' := RInt) (n := m) (fun _ => true) (fun k => (0 : Int) + (k : Nat)) nD2 rint_keep (by omega) ?_ ?_
      · intro kk H14 C C0 hkk s14 c1 _
        exact ⟨rfl, _, rfl, c1 rfl _ _ (fun _ _ e => e) rfl⟩
      intro ws2 H14 s14 hD2 hws2
      rw [List.filter_eq_self.mpr fun _ _ => rfl] at hws2
      have hD2 : H14 D2 = some (.lst ((rangeI m).map V.int)) := by rw [hD2, rint_map hws2]; rfl
      refine ⟨D2, _, rfl, .inl ⟨.of hD2, fun p15 z15 => ?_⟩⟩
      obtain ⟨H15, e15, S15, A15⟩ := alloc (o := .tup ((rangeI m).map V.int)) z15
      rw [e15]
      have g15 : Good H15 (.ref p15) := ⟨p15, rangeI m, rfl, A15, range_perm m, by rw [rangeI_len]; omega⟩
      refine ⟨(by show 2 ≤ sizeLine; decide), fun q16 z16 => ?_⟩
      obtain ⟨H16, e16, S16, A16⟩ := alloc (o := .lst [.ref p13, .ref p15]) z16
      rw [e16]
      have s1113 : Same H11 H13 := fun b o e => S13 _ _ (s12 _ _ e)
      have s1316 : Same H13 H16 := fun b o e => S16 _ _ (S15 _ _ (s14 _ _ e))
      refine ⟨q11, q16, _, _, rfl, rfl, s1316 _ _ (s1113 _ _ A11), A16, (by show 3 + 2 ≤ sizeLine; decide), fun q17 z17 => ?_⟩
      obtain ⟨H17, e17, S17, A17⟩ := alloc (o := .lst ([.ref p7, .ref p9, .ref p10] ++ [.ref p13, .ref p15])) z17
      rw [e17]
      have s1017 : Same H10 H17 := fun b o e => S17 _ _ (s1316 _ _ (s1113 _ _ (S11 _ _ e)))
      have hw17 := hw10.keep (H' := H17) fun o e => s1017 _ _ e
      have h217 := s1017 _ _ h210
      have t17 := t10.ext s1017
      have hq17 : q17 ≠ wl := fun e => by
        obtain ⟨w0, w1, w2, e2, _⟩ := hw17
        rw [← e, A17] at e2
        cases e2
      refine ⟨_, rfl, _, rfl, wl, 40, _, rfl, hw17, by omega, by decide, by decide, fun d18 H18 d180 d181 hw18 hk18 => ?_⟩
      obtain ⟨u, rfl⟩ : ∃ m : Nat, d18 = (m : Int) := ⟨d18.toNat, by omega⟩
      refine ⟨_, _, rfl, rfl, u + 1, congrArg (fun z => [V.int z]) (by omega), by omega, by omega, fun p19 H19 n19 s19 A19 => ?_⟩
      obtain ⟨q19, l19⟩ := tf_perm (n := u + 1) (by omega) (by omega)
      have g19 : Good H19 (.ref p19) := ⟨p19, _, rfl, A19, q19, by omega⟩
      refine ⟨26, rfl, by decide, by decide, fun p20 H20 n20 s20 A20 => ?_⟩
      obtain ⟨q20, l20⟩ := tf_perm (n := 26) (by decide) (by decide)
      have g20 : Good H20 (.ref p20) := ⟨p20, _, rfl, A20, q20, by omega⟩
      refine ⟨27, rfl, by decide, by decide, fun p21 H21 n21 s21 A21 => ?_⟩
      obtain ⟨q21, l21⟩ := tf_perm (n := 27) (by decide) (by decide)
      have g21 : Good H21 (.ref p21) := ⟨p21, _, rfl, A21, q21, by omega⟩
      refine ⟨(by show 3 ≤ sizeLine; decide), fun q22 z22 => ?_⟩
      obtain ⟨H22, e22, S22, A22⟩ := alloc (o := .lst [.ref p19, .ref p20, .ref p21]) z22
      rw [e22]
      have s1822 : Same H18 H22 := fun b o e => S22 _ _ (s21 _ _ (s20 _ _ (s19 _ _ e)))
      refine ⟨q17, q22, _, _, rfl, rfl, s1822 _ _ (hk18 _ _ A17 hq17), A22, (by show 5 + 3 ≤ sizeLine; decide), fun q23 z23 => ?_⟩
      obtain ⟨H23, e23, S23, A23⟩ := alloc (o := .lst ([.ref p7, .ref p9, .ref p10] ++ [.ref p13, .ref p15] ++ [.ref p19, .ref p20, .ref p21])) z23
      rw [e23]
      have s1823 : Same H18 H23 := fun b o e => S23 _ _ (s1822 _ _ e)
      have up : ∀ x, Good H17 x → Good H23 x := fun x g => good_S s1823 (good_B hw17 hk18 g)
      have gall : ∀ x ∈ ([.ref p7, .ref p9, .ref p10] ++ [.ref p13, .ref p15] ++ [.ref p19, .ref p20, .ref p21] : List V), Good H23 x := fun x hx => by
        simp only [List.mem_append, List.mem_cons, List.not_mem_nil, or_false] at hx
        rcases hx with (((rfl | rfl | rfl) | (rfl | rfl)) | (rfl | rfl | rfl))
        · exact up _ (good_S s1017 g710)
        · exact up _ (good_S s1017 g910)
        · exact up _ (good_S s1017 g10)
        · exact up _ (good_S (fun b o e => S17 _ _ (s1316 _ _ e)) g13)
        · exact up _ (good_S (fun b o e => S17 _ _ (S16 _ _ e)) g15)
        · exact good_S (fun b o e => S23 _ _ (S22 _ _ (s21 _ _ (s20 _ _ e)))) g19
        · exact good_S (fun b o e => S23 _ _ (S22 _ _ (s21 _ _ e))) g20
        · exact good_S (fun b o e => S23 _ _ (S22 _ _ e)) g21
      have h223 := s1823 _ _ (hk18 _ _ h217 hp2)
      have t23 := (tabs_but t17 hw17.lst hk18).ext s1823
      generalize hL : ([.ref p7, .ref p9, .ref p10] ++ [.ref p13, .ref p15] ++ [.ref p19, .ref p20, .ref p21] : List V) = L at A23 gall
      refine ⟨_, rfl, q23, rfl, ⟨_, .of A23⟩, fun D3 nD3 => ?_⟩
      refine lc_it (walk_list (K := K) (a := q23) (xs := L)) (fun i H' => KeepT H23 H' ∧ Tabs [(PT, qOrd)] H' ∧ H' D3 = some (.lst [])) ⟨.of fun b o e => by rw [upd_ne (ne_of_none e nD3)]; exact e, t23.ext fun b o e => by rw [upd_ne (ne_of_none e nD3)]; exact e, upd_same⟩ (fun _ _ _ ⟨kk, _, _⟩ => .of (kk.lst A23)) ?_ ?_
      · rintro i x H24 H25 hi ⟨k24, t24, d24⟩ ⟨rfl, hx⟩
        obtain ⟨p25, ns25, rfl, A25, hp25, hl25⟩ := good_T k24 (gall x (List.mem_of_getElem? hx))
        refine ⟨rfl, _, rfl, p25, ns25, rfl, A25, hp25, hl25, t24, fun H26 k26 t26 => ⟨_, rfl, ?_⟩⟩
        exact ⟨k24.trans k26, t26, k26.lst d24⟩
      rintro H24 ⟨k24, t24, d24⟩
      refine ⟨(by show 0 ≤ sizeLine; decide), fun p25 z25 => ?_⟩
      obtain ⟨H25, e25, S25, A25⟩ := alloc (o := .lst []) z25
      rw [e25]
      refine ⟨lI [], lI [], dp_lI (.of (S25 _ _ d24)), dp_lI (.of A25), shaped_lI _, shaped_lI _, _, rfl, ?_⟩
      rw [eqv_lI, decide_eq_true rfl]
      exact ⟨_, _, _, _, rfl, S25 _ _ (k24.lst h223), t24.ext S25⟩
    · rintro σ H3 ⟨v1, v2, v3, v4, rfl, h2, hT3⟩
      obtain ⟨q27, l27⟩ := tf_perm (n := 27) (by decide) (by decide)
      refine ⟨27, rfl, by decide, by decide, fun p4 H4 n4 s4 A4 => ?_⟩
      dsimp only [tNil, List.append_nil]
      refine drops_ok q27 (by omega) A4 fun p5 H5 n5 s5 A5 => ?_
      refine ⟨p5, _, rfl, .inl (.of A5), rfl, _, rfl, ?_⟩
      rw [List.length_map, ft1]
      rw [show (!decide (V.int ((26 : Nat) : Int) = V.int 26)) = false from by rw [show (V.int ((26 : Nat) : Int)) = V.int 26 from rfl, decide_eq_true rfl]; rfl]
      refine ⟨27, rfl, by decide, by decide, fun p6 H6 n6 s6 A6 => ?_⟩
      dsimp only [tNil, List.append_nil]
      refine least_ok q27 (by omega) A6 (fun hd => absurd hd (by rw [ft1]; decide)) fun _ H7 s7 => ?_
      refine ⟨rfl, _, rfl, ?_⟩
      rw [decide_eq_true rfl]
      refine ⟨_, rfl, by omega, by omega, fun D nD => ?_⟩
      rw [show ((40 : Int)).toNat = 40 from rfl]
      refine lcM_range (R' := RInt) (n := 40) (fun _ => true) (fun k => (0 : Int) + (k : Nat)) nD rint_keep (by omega) ?_ ?_
      · intro kk H8 C C0 hkk s8 c1 _
        exact ⟨rfl, _, rfl, c1 rfl _ _ (fun _ _ e => e) rfl⟩
      intro ws H8 s8 hD hws
      rw [List.filter_eq_self.mpr fun _ _ => rfl] at hws
      have hD : H8 D = some (.lst ((rangeI 40).map V.int)) := by rw [hD, rint_map hws]; rfl
      refine ⟨D, _, rfl, .inl ⟨.of hD, fun p9 z9 => ?_⟩⟩
      obtain ⟨H9, e9, S9, A9⟩ := alloc (o := .tup ((rangeI 40).map V.int)) z9
      rw [e9]
      dsimp only [tNil, List.append_nil]
      refine least_ok (range_perm 40) (by rw [rangeI_len]; decide) A9 (fun hd H10 s10 => ?_) fun hd => absurd hd (by omega)
      rw [ft2]
      refine ⟨_, _, rfl, rfl, by omega, by omega, by show 1 * _ ≤ _; decide, ?_⟩
      refine ⟨_, _, rfl, rfl, (by decide +kernel), rfl, ?_⟩
      rw [show (39 : Int).toNat = 39 from rfl, decide_eq_true rfl]
      exact k H10
end
end T23

set_option Elab.async false
set_option linter.all false
set_option maxRecDepth 100000
set_option maxHeartbeats 4000000
/-! ErrEnd: an error class's facts, from what the top has written. -/
namespace EK
open PySem PySem.W L2
def errB (K : Frag) (C fI : Addr) (f : Str) : Bool :=
  xfB K C && (decide (findIn K (.ref C) "__setattr__" = some (some (.builtin "object.__setattr__"))) && (decide (findIn K (.ref C) f = some none) && (decide (typeIn K (.ref fI) = some (.type "function")) && (keepIn K (.ref C) &&
  (decide (typeIn K (.ref C) = some (.type "type")) && (decide (exmOne K (.ref C) (.ref C) = some true) && (decide (subIn K (.ref C) (.type "ValueError") = some true) && (decide (ks_superIn K C C "__init__" = some (some (.builtin "ValueError.__init__"))) &&
  (decide (mroIn K C (.ref C) = some true) && (decide (findIn K (.ref C) "__class__" = some (some (.builtin "object.__class__"))) && decide (mroIn K C (.type "object") = some true)))))))))))
theorem and2 {a b : Bool} (h : (a && b) = true) : a = true ∧ b = true := Bool.and_eq_true_iff.mp h
theorem err_mk {P : Program} {K : Frag} {h : Heap} {mg : Str → Option Value} {x f : Str} {C fI N cda cc : Addr} (X : K.In h) (G : h.Ns mainGlobals mg)
    {nm q qn msg file : Str} {bs bm : List Value} {sn : List Str} {sub : List Value} {ab : Bool} {col : Option Bool} {dd od an cdd cld : Option Addr} {m0 m1 m2 m3 m5 : Option Value} {oc doc pm ct ccl cl : Value} {osl ccs csl : Array (Option Value)} {vs : Array Value} {tf : Tok}
    {p1 p2 a1 a2 a3 a4 a5 a6 b1 b2 b3 b4 : Pos}
    (aC : nsIn K mainGlobals x = some (some (.ref C))) (xL : K.lookup C = some (excClassObj nm q C N bs bm true sn sub ab col dd m0 m1 m2 m3 m5 "ValueError.__new__")) (rv : HandSPX.refsVE bm = true)
    (iC : findIn K (.ref C) "__init__" = some (some (.ref fI)))
    (l1 : K.lookup fI = some ⟨oc, od, .func (ksFn "__init__" qn (eArgs f p1 p2) (eBody f msg a1 a2 a3 a4 a5 a6 b1 b2 b3 b4) (eScope f) .none .none doc pm an (.ref cda) ct cc), osl⟩) (c1 : codeIn K (.ref cda) qn = true)
    (bd : ∀ u v : Value, bindArgs (ksFn "__init__" qn (eArgs f p1 p2) (eBody f msg a1 a2 a3 a4 a5 a6 b1 b2 b3 b4) (eScope f) .none .none doc pm an (.ref cda) ct cc) ⟨[u, v], []⟩ = pure [(("self" : Str), u), (f, v)])
    (sc : ∀ L : Addr, SupCall a1 a2 a3 a4 a5 msg (callEnv (ksFn "__init__" qn (eArgs f p1 p2) (eBody f msg a1 a2 a3 a4 a5 a6 b1 b2 b3 b4) (eScope f) .none .none doc pm an (.ref cda) ct cc) L fI))
    (cd : K.lookup cda = some ⟨ccl, cdd, .fields vs, ccs⟩) (vf : vs[2]? = some (.str file tf)) (pf : ((P.main.file : Str) == file) = true) (cL : K.lookup cc = some ⟨cl, cld, .cell (some (.ref C)), csl⟩)
    (eB : errB K C fI f = true) (ho : nsIn K cStatics "thirdparty.any" = some none) (su : nsIn K mainGlobals "super" = some none) (fok : f ≠ "self" ∧ f ≠ "__class__" ∧ f ≠ "super" ∧ f ≠ "__debug__") (top : (P.main.scope.names.lookup ("super" : Str)).isSome = false) :
    ErrTxt P K mg x f C fI := by
  obtain ⟨h1, eB⟩ := and2 eB
  obtain ⟨h2, eB⟩ := and2 eB
  obtain ⟨h3, eB⟩ := and2 eB
  obtain ⟨h4, eB⟩ := and2 eB
  obtain ⟨h5, eB⟩ := and2 eB
  obtain ⟨h6, eB⟩ := and2 eB
  obtain ⟨h7, eB⟩ := and2 eB
  obtain ⟨h8, eB⟩ := and2 eB
  obtain ⟨h9, eB⟩ := and2 eB
  obtain ⟨h10, eB⟩ := and2 eB
  have T := xfB_ok h1
  exact { gC := mg_of X G aC, cls := ⟨nm, q, N, bs, bm, sn, sub, ab, col, dd, m0, m1, m2, m3, m5, xL, rv⟩, sa := of_decide_eq_true h2, ga := T.ga, gg := T.gg, noN := of_decide_eq_true h3, iC := iC, tC := of_decide_eq_true h4, kC := h5, exC := T.exC,
          tyC := of_decide_eq_true h6, hdC := T.hdC, te := of_decide_eq_true h7, hB := of_decide_eq_true h8, si := of_decide_eq_true h9, ho := ho, su := mg_none_of X G su, mC := of_decide_eq_true h10, fok := fok, top := top,
          fn := ⟨oc, od, qn, msg, doc, pm, an, cda, cc, ct, osl, p1, p2, a1, a2, a3, a4, a5, a6, b1, b2, b3, b4, l1, c1, bd, sc, ⟨ccl, cdd, ccs, vs, file, tf, cd, vf, pf⟩, ⟨cl, cld, csl, cL⟩⟩ }
theorem excC_of {K : Frag} {C fI : Addr} {f : Str} (eB : errB K C fI f = true) (hn : specialIn K (.builtin "object.__class__") "__get__" = some (some (.builtin "getset_descriptor.__get__"))) (ht : takesIn K (.builtin "object.__class__") = some true) : ExcC K C := by
  obtain ⟨h1, eB⟩ := and2 eB
  obtain ⟨h2, eB⟩ := and2 eB
  obtain ⟨h3, eB⟩ := and2 eB
  obtain ⟨h4, eB⟩ := and2 eB
  obtain ⟨h5, eB⟩ := and2 eB
  obtain ⟨h6, eB⟩ := and2 eB
  obtain ⟨h7, eB⟩ := and2 eB
  obtain ⟨h8, eB⟩ := and2 eB
  obtain ⟨h9, eB⟩ := and2 eB
  obtain ⟨h10, eB⟩ := and2 eB
  obtain ⟨h11, h12⟩ := and2 eB
  have T := xfB_ok h1
  exact ⟨T.ga, T.gg, T.exC, T.hdC, of_decide_eq_true h11, hn, ht, of_decide_eq_true h12⟩
/-- which class is which, told apart -/
def kindsB (K : Frag) (E : Addr) (Cs : List Addr) : Bool :=
  (Cs.zipIdx.all fun p => Cs.zipIdx.all fun q => decide (kitOne K (.ref p.1) (.ref q.1) = some (decide (p.2 = q.2)))) && (Cs.all fun C => decide (kitOne K (.ref C) (.ref E) = some true) && decide (kitOne K (.ref C) (.type "ValueError") = some true))
theorem kinds_kt {K : Frag} {E : Addr} {Cs : List Addr} (h : kindsB K E Cs = true) (i j : Nat) (C D : Addr) (h1 : Cs[i]? = some C) (h2 : Cs[j]? = some D) : kitOne K (.ref C) (.ref D) = some (decide (i = j)) := by
  obtain ⟨h, _⟩ := and2 h
  have q := List.all_eq_true.mp h (C, i) (List.mk_mem_zipIdx_iff_getElem?.mpr h1)
  have q := List.all_eq_true.mp q (D, j) (List.mk_mem_zipIdx_iff_getElem?.mpr h2)
  exact of_decide_eq_true q
theorem kinds_ke {K : Frag} {E : Addr} {Cs : List Addr} (h : kindsB K E Cs = true) (C : Addr) (hC : C ∈ Cs) : kitOne K (.ref C) (.ref E) = some true ∧ kitOne K (.ref C) (.type "ValueError") = some true := by
  obtain ⟨_, h⟩ := and2 h
  obtain ⟨a, b⟩ := and2 (List.all_eq_true.mp h C hC)
  exact ⟨of_decide_eq_true a, of_decide_eq_true b⟩
end EK

set_option Elab.async false
set_option linter.all false
set_option maxRecDepth 100000
set_option maxHeartbeats 4000000
namespace T23
open PySem L2 EK LamX
theorem all_mk {l : PySem.W.OpenLaw} {w : World} {K : PySem.W.Frag} {h : Heap} {mg : Str → Option Value} {fa C1 i1 C2 i2 : Addr} {t1 : Tok} (X : K.In h) (G : h.Ns mainGlobals mg) (hfa : mg "law" = some (.ref fa))
    {fTX : Addr} {odTX anTX : Option Addr} {slTX : Array (Option Value)} {ocTX kVTX dcTX pmTX cdTX ctTX : Value}
    {fN : Addr} {odN anN : Option Addr} {slN : Array (Option Value)} {ocN kVN dcN pmN cdN ctN : Value}
    {fB : Addr} {odB anB : Option Addr} {slB : Array (Option Value)} {ocB kVB dcB pmB cdB ctB : Value}
    {fO : Addr} {odO anO : Option Addr} {slO : Array (Option Value)} {ocO kVO dcO pmO cdO ctO : Value}
    {fCT : Addr} {odCT anCT : Option Addr} {slCT : Array (Option Value)} {ocCT kVCT dcCT pmCT cdCT ctCT : Value}
    {fCB : Addr} {odCB anCB : Option Addr} {slCB : Array (Option Value)} {ocCB kVCB dcCB pmCB cdCB ctCB : Value}
    {fCO : Addr} {odCO anCO : Option Addr} {slCO : Array (Option Value)} {ocCO kVCO dcCO pmCO cdCO ctCO : Value}
    {fOO : Addr} {odOO anOO : Option Addr} {slOO : Array (Option Value)} {ocOO kVOO dcOO pmOO  ctOO : Value} {cOOa POOa : Addr}
    {fD : Addr} {odD anD : Option Addr} {slD : Array (Option Value)} {ocD kVD dcD pmD cdD ctD : Value}
    {fT : Addr} {odT anT : Option Addr} {slT : Array (Option Value)} {ocT kVT dcT pmT cdT ctT : Value}
    {fM : Addr} {odM anM : Option Addr} {slM : Array (Option Value)} {ocM kVM dcM pmM cdM ctM : Value}
    {fH : Addr} {odH anH : Option Addr} {slH : Array (Option Value)} {ocH kVH dcH pmH cdH ctH : Value}
    {fK : Addr} {odK anK : Option Addr} {slK : Array (Option Value)} {ocK kVK dcK pmK cdK ctK : Value}
    {fU : Addr} {odU anU : Option Addr} {slU : Array (Option Value)} {ocU kVU dcU pmU cdU ctU : Value}
    {fP : Addr} {odP anP : Option Addr} {slP : Array (Option Value)} {ocP kVP dcP pmP cdP ctP : Value}
    {fI : Addr} {odI anI : Option Addr} {slI : Array (Option Value)} {ocI kVI dcI pmI cdI ctI : Value}
    {fX : Addr} {odX anX : Option Addr} {slX : Array (Option Value)} {ocX kVX dcX pmX cdX ctX : Value}
    {fSH : Addr} {odSH anSH : Option Addr} {slSH : Array (Option Value)} {ocSH kVSH dcSH pmSH cdSH ctSH : Value}
    {fFA : Addr} {odFA anFA : Option Addr} {slFA : Array (Option Value)} {ocFA kVFA dcFA pmFA cdFA ctFA : Value}
    {fW : Addr} {odW anW : Option Addr} {slW : Array (Option Value)} {ocW kVW dcW pmW cdW ctW : Value}
    {fNE : Addr} {odNE anNE : Option Addr} {slNE : Array (Option Value)} {ocNE kVNE dcNE pmNE cdNE ctNE : Value}
    {fTF : Addr} {odTF anTF : Option Addr} {slTF : Array (Option Value)} {ocTF kVTF dcTF pmTF cdTF ctTF : Value}
    {fR : Addr} {odR anR : Option Addr} {slR : Array (Option Value)} {ocR kVR dcR pmR cdR ctR : Value}
    {fZ : Addr} {odZ anZ : Option Addr} {slZ : Array (Option Value)} {ocZ kVZ dcZ pmZ cdZ ctZ : Value}
    (T1 : ErrTxt l.prog K mg "NoNumber" "number" C1 i1) (T2 : ErrTxt l.prog K mg "NoOrder" "order" C2 i2) 
    (aTX : PySem.W.nsIn K mainGlobals "is_text" = some (some (.ref fTX))) (lTX : K.lookup fTX = some ⟨ocTX, odTX, .func (PySem.W.fnOf "is_text" "is_text" (defArgs sIsText) (defBody sIsText) (defScope sIsText) .none kVTX dcTX pmTX anTX cdTX ctTX), slTX⟩) (cTX : PySem.W.codeIn K cdTX "is_text" = true) (kTX : PySem.W.keepIn K (.ref fTX) = true)
    (aN : PySem.W.nsIn K mainGlobals "is_number" = some (some (.ref fN))) (lN : K.lookup fN = some ⟨ocN, odN, .func (PySem.W.fnOf "is_number" "is_number" (defArgs sIsNum) (defBody sIsNum) (defScope sIsNum) .none kVN dcN pmN anN cdN ctN), slN⟩) (cN : PySem.W.codeIn K cdN "is_number" = true) (kN : PySem.W.keepIn K (.ref fN) = true)
    (aB : PySem.W.nsIn K mainGlobals "is_number_between" = some (some (.ref fB))) (lB : K.lookup fB = some ⟨ocB, odB, .func (PySem.W.fnOf "is_number_between" "is_number_between" (defArgs sIsNB) (defBody sIsNB) (defScope sIsNB) .none kVB dcB pmB anB cdB ctB), slB⟩) (cB : PySem.W.codeIn K cdB "is_number_between" = true) (kB : PySem.W.keepIn K (.ref fB) = true)
    (aO : PySem.W.nsIn K mainGlobals "is_order" = some (some (.ref fO))) (lO : K.lookup fO = some ⟨ocO, odO, .func (PySem.W.fnOf "is_order" "is_order" (defArgs sIsOrd) (defBody sIsOrd) (defScope sIsOrd) .none kVO dcO pmO anO cdO ctO), slO⟩) (cO : PySem.W.codeIn K cdO "is_order" = true) (kO : PySem.W.keepIn K (.ref fO) = true)
    (aCT : PySem.W.nsIn K mainGlobals "check_text" = some (some (.ref fCT))) (lCT : K.lookup fCT = some ⟨ocCT, odCT, .func (PySem.W.fnOf "check_text" "check_text" (defArgs sCkText) (defBody sCkText) (defScope sCkText) .none kVCT dcCT pmCT anCT cdCT ctCT), slCT⟩) (cCT : PySem.W.codeIn K cdCT "check_text" = true) (kCT : PySem.W.keepIn K (.ref fCT) = true)
    (aCB : PySem.W.nsIn K mainGlobals "check_number_between" = some (some (.ref fCB))) (lCB : K.lookup fCB = some ⟨ocCB, odCB, .func (PySem.W.fnOf "check_number_between" "check_number_between" (defArgs sCkNB) (defBody sCkNB) (defScope sCkNB) .none kVCB dcCB pmCB anCB cdCB ctCB), slCB⟩) (cCB : PySem.W.codeIn K cdCB "check_number_between" = true) (kCB : PySem.W.keepIn K (.ref fCB) = true)
    (aCO : PySem.W.nsIn K mainGlobals "check_order" = some (some (.ref fCO))) (lCO : K.lookup fCO = some ⟨ocCO, odCO, .func (PySem.W.fnOf "check_order" "check_order" (defArgs sCkOrd) (defBody sCkOrd) (defScope sCkOrd) .none kVCO dcCO pmCO anCO cdCO ctCO), slCO⟩) (cCO : PySem.W.codeIn K cdCO "check_order" = true) (kCO : PySem.W.keepIn K (.ref fCO) = true)
    (aOO : PySem.W.nsIn K mainGlobals "order_of" = some (some (.ref fOO))) (lOO : K.lookup fOO = some ⟨ocOO, odOO, .func (PySem.W.fnOf "order_of" "order_of" (defArgs sOrderOf) (defBody sOrderOf) (defScope sOrderOf) .none kVOO dcOO pmOO anOO (.ref cOOa) ctOO), slOO⟩) (cOO : PySem.W.codeIn K (.ref cOOa) "order_of" = true) (kOO : PySem.W.keepIn K (.ref fOO) = true)
    (aD : PySem.W.nsIn K mainGlobals "drops" = some (some (.ref fD))) (lD : K.lookup fD = some ⟨ocD, odD, .func (PySem.W.fnOf "drops" "drops" (defArgs sDrops) (defBody sDrops) (defScope sDrops) .none kVD dcD pmD anD cdD ctD), slD⟩) (cD : PySem.W.codeIn K cdD "drops" = true) (kD : PySem.W.keepIn K (.ref fD) = true)
    (aT : PySem.W.nsIn K mainGlobals "least_text" = some (some (.ref fT))) (lT : K.lookup fT = some ⟨ocT, odT, .func (PySem.W.fnOf "least_text" "least_text" (defArgs sLeastT) (defBody sLeastT) (defScope sLeastT) .none kVT dcT pmT anT cdT ctT), slT⟩) (cT : PySem.W.codeIn K cdT "least_text" = true) (kT : PySem.W.keepIn K (.ref fT) = true)
    (aM : PySem.W.nsIn K mainGlobals "orders_number" = some (some (.ref fM))) (lM : K.lookup fM = some ⟨ocM, odM, .func (PySem.W.fnOf "orders_number" "orders_number" (defArgs sOrdN) (defBody sOrdN) (defScope sOrdN) .none kVM dcM pmM anM cdM ctM), slM⟩) (cM : PySem.W.codeIn K cdM "orders_number" = true) (kM : PySem.W.keepIn K (.ref fM) = true)
    (aH : PySem.W.nsIn K mainGlobals "has_order" = some (some (.ref fH))) (lH : K.lookup fH = some ⟨ocH, odH, .func (PySem.W.fnOf "has_order" "has_order" (defArgs sHas) (defBody sHas) (defScope sHas) .none kVH dcH pmH anH cdH ctH), slH⟩) (cH : PySem.W.codeIn K cdH "has_order" = true) (kH : PySem.W.keepIn K (.ref fH) = true)
    (aK : PySem.W.nsIn K mainGlobals "_ranks" = some (some (.ref fK))) (lK : K.lookup fK = some ⟨ocK, odK, .func (PySem.W.fnOf "_ranks" "_ranks" (defArgs sRanks) (defBody sRanks) (defScope sRanks) .none kVK dcK pmK anK cdK ctK), slK⟩) (cK : PySem.W.codeIn K cdK "_ranks" = true) (kK : PySem.W.keepIn K (.ref fK) = true)
    (aU : PySem.W.nsIn K mainGlobals "_law_urn" = some (some (.ref fU))) (lU : K.lookup fU = some ⟨ocU, odU, .func (PySem.W.fnOf "_law_urn" "_law_urn" (defArgs sUrn) (defBody sUrn) (defScope sUrn) .none kVU dcU pmU anU cdU ctU), slU⟩) (cU : PySem.W.codeIn K cdU "_law_urn" = true) (kU : PySem.W.keepIn K (.ref fU) = true)
    (aP : PySem.W.nsIn K mainGlobals "_law_pull" = some (some (.ref fP))) (lP : K.lookup fP = some ⟨ocP, odP, .func (PySem.W.fnOf "_law_pull" "_law_pull" (defArgs sPull) (defBody sPull) (defScope sPull) .none kVP dcP pmP anP cdP ctP), slP⟩) (cP : PySem.W.codeIn K cdP "_law_pull" = true) (kP : PySem.W.keepIn K (.ref fP) = true)
    (aI : PySem.W.nsIn K mainGlobals "_law_pick" = some (some (.ref fI))) (lI : K.lookup fI = some ⟨ocI, odI, .func (PySem.W.fnOf "_law_pick" "_law_pick" (defArgs sPick) (defBody sPick) (defScope sPick) .none kVI dcI pmI anI cdI ctI), slI⟩) (cI : PySem.W.codeIn K cdI "_law_pick" = true) (kI : PySem.W.keepIn K (.ref fI) = true)
    (aX : PySem.W.nsIn K mainGlobals "_law_text" = some (some (.ref fX))) (lX : K.lookup fX = some ⟨ocX, odX, .func (PySem.W.fnOf "_law_text" "_law_text" (defArgs sText) (defBody sText) (defScope sText) .none kVX dcX pmX anX cdX ctX), slX⟩) (cX : PySem.W.codeIn K cdX "_law_text" = true) (kX : PySem.W.keepIn K (.ref fX) = true)
    (aSH : PySem.W.nsIn K mainGlobals "_law_shuffled" = some (some (.ref fSH))) (lSH : K.lookup fSH = some ⟨ocSH, odSH, .func (PySem.W.fnOf "_law_shuffled" "_law_shuffled" (defArgs sShuffled) (defBody sShuffled) (defScope sShuffled) .none kVSH dcSH pmSH anSH cdSH ctSH), slSH⟩) (cSH : PySem.W.codeIn K cdSH "_law_shuffled" = true) (kSH : PySem.W.keepIn K (.ref fSH) = true)
    (aFA : PySem.W.nsIn K mainGlobals "_law_falls" = some (some (.ref fFA))) (lFA : K.lookup fFA = some ⟨ocFA, odFA, .func (PySem.W.fnOf "_law_falls" "_law_falls" (defArgs sFalls) (defBody sFalls) (defScope sFalls) .none kVFA dcFA pmFA anFA cdFA ctFA), slFA⟩) (cFA : PySem.W.codeIn K cdFA "_law_falls" = true) (kFA : PySem.W.keepIn K (.ref fFA) = true)
    (aW : PySem.W.nsIn K mainGlobals "_law_ways" = some (some (.ref fW))) (lW : K.lookup fW = some ⟨ocW, odW, .func (PySem.W.fnOf "_law_ways" "_law_ways" (defArgs sWays) (defBody sWays) (defScope sWays) .none kVW dcW pmW anW cdW ctW), slW⟩) (cW : PySem.W.codeIn K cdW "_law_ways" = true) (kW : PySem.W.keepIn K (.ref fW) = true)
    (aNE : PySem.W.nsIn K mainGlobals "_law_nearly" = some (some (.ref fNE))) (lNE : K.lookup fNE = some ⟨ocNE, odNE, .func (PySem.W.fnOf "_law_nearly" "_law_nearly" (defArgs sNearly) (defBody sNearly) (defScope sNearly) .none kVNE dcNE pmNE anNE cdNE ctNE), slNE⟩) (cNE : PySem.W.codeIn K cdNE "_law_nearly" = true) (kNE : PySem.W.keepIn K (.ref fNE) = true)
    (aTF : PySem.W.nsIn K mainGlobals "_law_to_and_fro" = some (some (.ref fTF))) (lTF : K.lookup fTF = some ⟨ocTF, odTF, .func (PySem.W.fnOf "_law_to_and_fro" "_law_to_and_fro" (defArgs sToAndFro) (defBody sToAndFro) (defScope sToAndFro) .none kVTF dcTF pmTF anTF cdTF ctTF), slTF⟩) (cTF : PySem.W.codeIn K cdTF "_law_to_and_fro" = true) (kTF : PySem.W.keepIn K (.ref fTF) = true)
    (aR : PySem.W.nsIn K mainGlobals "_law_right" = some (some (.ref fR))) (lR : K.lookup fR = some ⟨ocR, odR, .func (PySem.W.fnOf "_law_right" "_law_right" (defArgs sRight) (defBody sRight) (defScope sRight) .none kVR dcR pmR anR cdR ctR), slR⟩) (cR : PySem.W.codeIn K cdR "_law_right" = true) (kR : PySem.W.keepIn K (.ref fR) = true)
    (aZ : PySem.W.nsIn K mainGlobals "law" = some (some (.ref fZ))) (lZ : K.lookup fZ = some ⟨ocZ, odZ, .func (PySem.W.fnOf "law" "law" (defArgs sLaw) (defBody sLaw) (defScope sLaw) .none kVZ dcZ pmZ anZ cdZ ctZ), slZ⟩) (cZ : PySem.W.codeIn K cdZ "law" = true) (kZ : PySem.W.keepIn K (.ref fZ) = true)
    (hTabOO : h.get? POOa = some { cls := .none, data := .fields #[] }) (nTOO : K.lookup POOa = none) (hCdOO : PySem.W.codeHdIn K cOOa POOa = true)
    (y1 : PySem.W.nsIn K mainGlobals "LETTERS" = some (some (.str "abcdefghijklmnopqrstuvwxyz" t1))) (y2 : PySem.W.nsIn K mainGlobals "comb" = some (some (.builtin "math.comb")))
    (z1 : PySem.W.nsIn K mainGlobals "isinstance" = some none) (z2 : PySem.W.nsIn K mainGlobals "str" = some none) (z3 : PySem.W.nsIn K mainGlobals "int" = some none) (z4 : PySem.W.nsIn K mainGlobals "bool" = some none) (z5 : PySem.W.nsIn K mainGlobals "tuple" = some none) (z6 : PySem.W.nsIn K mainGlobals "all" = some none) (z7 : PySem.W.nsIn K mainGlobals "len" = some none) (z8 : PySem.W.nsIn K mainGlobals "list" = some none) (z9 : PySem.W.nsIn K mainGlobals "sorted" = some none) (z10 : PySem.W.nsIn K mainGlobals "range" = some none) (z11 : PySem.W.nsIn K mainGlobals "enumerate" = some none) (z12 : PySem.W.nsIn K mainGlobals "dict" = some none) (z13 : PySem.W.nsIn K mainGlobals "abs" = some none) : LawAtS l w K CX0 7 63 "_law_script" mg fa h := by
  have e := hfa.symm.trans (PySem.W.mg_of X G aZ)
  cases e
  have TU : TxtU K mg := ⟨PySem.W.mg_none_of X G z3, PySem.W.mg_none_of X G z13⟩
  have TP : TxtP K mg := ⟨PySem.W.mg_none_of X G z7, PySem.W.mg_none_of X G z10⟩
  have TC : TxtC K mg := ⟨PySem.W.mg_none_of X G z1, PySem.W.mg_none_of X G z2, PySem.W.mg_none_of X G z3, PySem.W.mg_none_of X G z4, PySem.W.mg_none_of X G z5, PySem.W.mg_none_of X G z6, PySem.W.mg_none_of X G z7, PySem.W.mg_none_of X G z8, PySem.W.mg_none_of X G z9, PySem.W.mg_none_of X G z10, PySem.W.mg_none_of X G z11, PySem.W.mg_none_of X G z12, ⟨_, PySem.W.mg_of X G y1, ⟨_, rfl⟩⟩, PySem.W.mg_of X G y2⟩
  have FTX := fun_mk (st := sIsText) lTX cTX kTX
  have FN := fun_mk (st := sIsNum) lN cN kN
  have FB := fun_mk (st := sIsNB) lB cB kB
  have FO := fun_mk (st := sIsOrd) lO cO kO
  have FCT := fun_mk (st := sCkText) lCT cCT kCT
  have FCB := fun_mk (st := sCkNB) lCB cCB kCB
  have FCO := fun_mk (st := sCkOrd) lCO cCO kCO
  have FOO := fun_mk (st := sOrderOf) lOO cOO kOO
  have FD := fun_mk (st := sDrops) lD cD kD
  have FT := fun_mk (st := sLeastT) lT cT kT
  have FM := fun_mk (st := sOrdN) lM cM kM
  have FH := fun_mk (st := sHas) lH cH kH
  have FK := fun_mk (st := sRanks) lK cK kK
  have FU := fun_mk (st := sUrn) lU cU kU
  have FP := fun_mk (st := sPull) lP cP kP
  have FI := fun_mk (st := sPick) lI cI kI
  have FX := fun_mk (st := sText) lX cX kX
  have FSH := fun_mk (st := sShuffled) lSH cSH kSH
  have FFA := fun_mk (st := sFalls) lFA cFA kFA
  have FW := fun_mk (st := sWays) lW cW kW
  have FNE := fun_mk (st := sNearly) lNE cNE kNE
  have FTF := fun_mk (st := sToAndFro) lTF cTF kTF
  have FR := fun_mk (st := sRight) lR cR kR
  have FZ := fun_mk (st := sLaw) lZ cZ kZ
  have bTX := FTX.binds (ps := ["value"]) fun _ _ _ _ _ _ us hl => match us, hl with | [_], _ => rfl
  have bN := FN.binds (ps := ["value", "least"]) fun _ _ _ _ _ _ us hl => match us, hl with | [_, _], _ => rfl
  have bB := FB.binds (ps := ["value", "least", "greatest"]) fun _ _ _ _ _ _ us hl => match us, hl with | [_, _, _], _ => rfl
  have bO := FO.binds (ps := ["value"]) fun _ _ _ _ _ _ us hl => match us, hl with | [_], _ => rfl
  have bCT := FCT.binds (ps := ["text"]) fun _ _ _ _ _ _ us hl => match us, hl with | [_], _ => rfl
  have bCB := FCB.binds (ps := ["number", "least", "greatest"]) fun _ _ _ _ _ _ us hl => match us, hl with | [_, _, _], _ => rfl
  have bCO := FCO.binds (ps := ["order"]) fun _ _ _ _ _ _ us hl => match us, hl with | [_], _ => rfl
  have bOO := FOO.binds (ps := ["text"]) fun _ _ _ _ _ _ us hl => match us, hl with | [_], _ => rfl
  have bD := FD.binds (ps := ["order"]) fun _ _ _ _ _ _ us hl => match us, hl with | [_], _ => rfl
  have bT := FT.binds (ps := ["order"]) fun _ _ _ _ _ _ us hl => match us, hl with | [_], _ => rfl
  have bM := FM.binds (ps := ["order", "letters"]) fun _ _ _ _ _ _ us hl => match us, hl with | [_, _], _ => rfl
  have bH := FH.binds (ps := ["text", "order"]) fun _ _ _ _ _ _ us hl => match us, hl with | [_, _], _ => rfl
  have bK := FK.binds (ps := ["order"]) fun _ _ _ _ _ _ us hl => match us, hl with | [_], _ => rfl
  have bU := FU.binds (ps := ["_law_cell"]) fun _ _ _ _ _ _ us hl => match us, hl with | [_], _ => rfl
  have bP := FP.binds (ps := ["_law_urn_here", "_law_many"]) fun _ _ _ _ _ _ us hl => match us, hl with | [_, _], _ => rfl
  have bI := FI.binds (ps := ["_law_urn_here", "_law_some"]) fun _ _ _ _ _ _ us hl => match us, hl with | [_, _], _ => rfl
  have bX := FX.binds (ps := ["_law_urn_here", "_law_most"]) fun _ _ _ _ _ _ us hl => match us, hl with | [_, _], _ => rfl
  have bSH := FSH.binds (ps := ["_law_urn_here", "_law_size"]) fun _ _ _ _ _ _ us hl => match us, hl with | [_, _], _ => rfl
  have bFA := FFA.binds (ps := ["_law_order"]) fun _ _ _ _ _ _ us hl => match us, hl with | [_], _ => rfl
  have bW := FW.binds (ps := ["_law_size", "_law_more"]) fun _ _ _ _ _ _ us hl => match us, hl with | [_, _], _ => rfl
  have bNE := FNE.binds (ps := ["_law_urn_here", "_law_size"]) fun _ _ _ _ _ _ us hl => match us, hl with | [_, _], _ => rfl
  have bTF := FTF.binds (ps := ["_law_size"]) fun _ _ _ _ _ _ us hl => match us, hl with | [_], _ => rfl
  have bR := FR.binds (ps := ["_law_order"]) fun _ _ _ _ _ _ us hl => match us, hl with | [_], _ => rfl
  have gTX := PySem.W.mg_of X G aTX
  have gN := PySem.W.mg_of X G aN
  have gB := PySem.W.mg_of X G aB
  have gO := PySem.W.mg_of X G aO
  have gCT := PySem.W.mg_of X G aCT
  have gCB := PySem.W.mg_of X G aCB
  have gCO := PySem.W.mg_of X G aCO
  have gOO := PySem.W.mg_of X G aOO
  have gD := PySem.W.mg_of X G aD
  have gT := PySem.W.mg_of X G aT
  have gM := PySem.W.mg_of X G aM
  have gH := PySem.W.mg_of X G aH
  have gK := PySem.W.mg_of X G aK
  have gU := PySem.W.mg_of X G aU
  have gP := PySem.W.mg_of X G aP
  have gI := PySem.W.mg_of X G aI
  have gX := PySem.W.mg_of X G aX
  have gSH := PySem.W.mg_of X G aSH
  have gFA := PySem.W.mg_of X G aFA
  have gW := PySem.W.mg_of X G aW
  have gNE := PySem.W.mg_of X G aNE
  have gTF := PySem.W.mg_of X G aTF
  have gR := PySem.W.mg_of X G aR
  have gZ := PySem.W.mg_of X G aZ
  refine ⟨PySem.W.fnOf "law" "law" (defArgs sLaw) (defBody sLaw) (defScope sLaw) .none kVZ dcZ pmZ anZ cdZ ctZ, [(cOOa, POOa)], spLaw K POOa, fun p hp => ?_, fun p hp => ?_, fun p hp => ?_, fun s u => .of_eq rfl, fun H a ns hl _ hT hS => ⟨a, ns, rfl, hS, hl, hT (cOOa, POOa) List.mem_cons_self, fun _ => rfl⟩, fun base _ _ hB => ?_⟩
  · rcases List.mem_cons.mp hp with rfl | hp
    · exact hTabOO
    exact absurd hp List.not_mem_nil
  · rcases List.mem_cons.mp hp with rfl | hp
    · exact nTOO
    exact absurd hp List.not_mem_nil
  · rcases List.mem_cons.mp hp with rfl | hp
    · exact PySem.W.codeHd_of_K X hCdOO
    exact absurd hp List.not_mem_nil
  have TBOO : TabB base mg cOOa POOa := hB (cOOa, POOa) List.mem_cons_self
  have GTX : FnOk l.prog w K mg base CX0 1 fTX _ ["value"] (spIsText) := ok_isText FTX TC
  have GN : FnOk l.prog w K mg base CX0 1 fN _ ["value", "least"] (spNumber) := ok_isNumber FN TC
  have GB : FnOk l.prog w K mg base CX0 2 fB _ ["value", "least", "greatest"] (spNB) := ok_isNB FB GN gN kN bN
  have GO : FnOk l.prog w K mg base CX0 2 fO _ ["value"] (spIsOrd) := ok_isOrd FO TC GN gN kN bN
  have GCT : FnOk l.prog w K mg base CX0 2 fCT _ ["text"] (spCkText) := ok_ckText FCT GTX gTX kTX bTX
  have GCB : FnOk l.prog w K mg base (L2.CX l.prog w) 3 fCB _ ["number", "least", "greatest"] (spCkNB C1) := ok_ckNB FCB T1 GB gB kB bB
  have GCO : FnOk l.prog w K mg base (L2.CX l.prog w) 3 fCO _ ["order"] (spCkOrd C2) := ok_ckOrd FCO T2 GO gO kO bO
  have GK : FnOk l.prog w K mg base CX0 1 fK _ ["order"] (spRanks) := ok_ranks FK TC
  have GOO : FnOk l.prog w K mg base CX0 3 fOO _ ["text"] (spOrderOf POOa) := ok_orderOf lOO cOO TBOO TC GCT gCT kCT bCT
  have GD : FnOk l.prog w K mg base (L2.CX l.prog w) 4 fD _ ["order"] (spDrops C2) := ok_drops FD TC GCO gCO kCO bCO GK gK kK bK
  have GM : FnOk l.prog w K mg base (L2.CX l.prog w) 5 fM _ ["order", "letters"] (spOrdN C2 C1) := ok_ordN FM TC GCO gCO kCO bCO GCB gCB kCB bCB GD gD kD bD
  have GT : FnOk l.prog w K mg base (L2.CX l.prog w) 5 fT _ ["order"] (spLeastT C2) := ok_leastT FT TC GCO gCO kCO bCO GD gD kD bD
  have GH : FnOk l.prog w K mg base (L2.CX l.prog w) 4 fH _ ["text", "order"] (spHas POOa) := ok_has FH TC GCT gCT kCT bCT GCO gCO kCO bCO GOO gOO kOO bOO
  have GU : FnOk l.prog w K mg base CX0 1 fU _ ["_law_cell"] (spUrn) := ok_urn FU TU
  have GP : FnOk l.prog w K mg base CX0 1 fP _ ["_law_urn_here", "_law_many"] (spPull) := ok_pull FP TU
  have GI : FnOk l.prog w K mg base CX0 2 fI _ ["_law_urn_here", "_law_some"] (spPick) := ok_pick FI TP GP gP kP bP
  have GX : FnOk l.prog w K mg base CX0 3 fX _ ["_law_urn_here", "_law_most"] (spText) := ok_text FX TP GP gP kP bP GI gI kI bI
  have GSH : FnOk l.prog w K mg base CX0 2 fSH _ ["_law_urn_here", "_law_size"] (spShuffled) := ok_shuf FSH TC GP gP kP bP
  have GFA : FnOk l.prog w K mg base CX0 1 fFA _ ["_law_order"] (spFalls) := ok_falls FFA TC
  have GW : FnOk l.prog w K mg base CX0 1 fW _ ["_law_size", "_law_more"] (spWays) := ok_ways FW TC
  have GNE : FnOk l.prog w K mg base CX0 2 fNE _ ["_law_urn_here", "_law_size"] (spNearly) := ok_nearly FNE TC GP gP kP bP
  have GTF : FnOk l.prog w K mg base CX0 1 fTF _ ["_law_size"] (spTF) := ok_tf FTF TC
  have GR : FnOk l.prog w K mg base CX0 6 fR _ ["_law_order"] (spRight POOa) := ok_right FR TC GFA gFA kFA bFA GW gW kW bW GT gT kT bT GD gD kD bD GM gM kM bM GH gH kH bH
  exact ok_law FZ TC GU gU kU bU GP gP kP bP GX gX kX bX GSH gSH kSH bSH GNE gNE kNE bNE GTF gTF kTF bTF GR gR kR bR GOO gOO kOO bOO GT gT kT bT GD gD kD bD
end T23
open PySem PySem.W PyProof.Rows
set_option maxRecDepth 100000 in
set_option maxHeartbeats 0 in
theorem PySem.Challenge.cw_turnindex_k23_whole_great_orders_holds : PySem.Challenge.rw_turnindex_k23_whole_great_orders.Holds := by
  w_on; o_law; k_head; (case hw => w_witness2)
  k_fill
  refine LamX.walk_ofTs (l := PySem.Challenge.rw_turnindex_k23_whole_great_orders) (n := 63) (k := 7) (x := "_law_script") (CX := fun _ => L2.CX0) rfl (by decide) rfl ⟨rfl, by decide, by decide⟩ (fun w h Y => PySem.W.km_in_of Y) ?F (fun _ _ _ _ _ z => z)
  case F =>
    intro w mg fa h Y KX G hmg
    refine' T23.all_mk KX G hmg (EK.err_mk (x := "NoNumber") (f := "number") KX G ?aC1 ?xL1 ?rv1 ?iC1 ?l11 ?c11 ?bd1 ?sc1 ?cd1 ?vf1 ?pf1 ?cL1 ?eB1 ?ho1 ?su1 ?fok1 ?top1) (EK.err_mk (x := "NoOrder") (f := "order") KX G ?aC2 ?xL2 ?rv2 ?iC2 ?l12 ?c12 ?bd2 ?sc2 ?cd2 ?vf2 ?pf2 ?cL2 ?eB2 ?ho2 ?su2 ?fok2 ?top2)  ?paTX ?plTX ?pcTX ?pkTX ?paN ?plN ?pcN ?pkN ?paB ?plB ?pcB ?pkB ?paO ?plO ?pcO ?pkO ?paCT ?plCT ?pcCT ?pkCT ?paCB ?plCB ?pcCB ?pkCB ?paCO ?plCO ?pcCO ?pkCO ?paOO ?plOO ?pcOO ?pkOO ?paD ?plD ?pcD ?pkD ?paT ?plT ?pcT ?pkT ?paM ?plM ?pcM ?pkM ?paH ?plH ?pcH ?pkH ?paK ?plK ?pcK ?pkK ?paU ?plU ?pcU ?pkU ?paP ?plP ?pcP ?pkP ?paI ?plI ?pcI ?pkI ?paX ?plX ?pcX ?pkX ?paSH ?plSH ?pcSH ?pkSH ?paFA ?plFA ?pcFA ?pkFA ?paW ?plW ?pcW ?pkW ?paNE ?plNE ?pcNE ?pkNE ?paTF ?plTF ?pcTF ?pkTF ?paR ?plR ?pcR ?pkR ?paZ ?plZ ?pcZ ?pkZ (PySem.W.km_tabs_of Y _ List.mem_cons_self) ?nTOO ?hCdOO ?y1 ?y2 ?z1 ?z2 ?z3 ?z4 ?z5 ?z6 ?z7 ?z8 ?z9 ?z10 ?z11 ?z12 ?z13
    (case aC1 => k_is); (case xL1 => k_is); (case rv1 => kernel_rfl); (case iC1 => k_is); (case l11 => k_is); (case c11 => k_is); (case bd1 => exact fun _ _ => rfl); (case sc1 => exact fun L => ⟨_, rfl⟩); (case cd1 => k_is); (case vf1 => rfl); (case pf1 => kernel_rfl); (case cL1 => k_is); (case eB1 => kernel_rfl); (case ho1 => k_is); (case su1 => k_is); (case fok1 => exact ⟨by decide +kernel, by decide +kernel, by decide +kernel, by decide +kernel⟩); (case top1 => kernel_rfl)
    (case aC2 => k_is); (case xL2 => k_is); (case rv2 => kernel_rfl); (case iC2 => k_is); (case l12 => k_is); (case c12 => k_is); (case bd2 => exact fun _ _ => rfl); (case sc2 => exact fun L => ⟨_, rfl⟩); (case cd2 => k_is); (case vf2 => rfl); (case pf2 => kernel_rfl); (case cL2 => k_is); (case eB2 => kernel_rfl); (case ho2 => k_is); (case su2 => k_is); (case fok2 => exact ⟨by decide +kernel, by decide +kernel, by decide +kernel, by decide +kernel⟩); (case top2 => kernel_rfl)
    (case paTX => k_is); (case plTX => k_is); (case pcTX => k_is); (case pkTX => k_is)
    (case paN => k_is); (case plN => k_is); (case pcN => k_is); (case pkN => k_is)
    (case paB => k_is); (case plB => k_is); (case pcB => k_is); (case pkB => k_is)
    (case paO => k_is); (case plO => k_is); (case pcO => k_is); (case pkO => k_is)
    (case paCT => k_is); (case plCT => k_is); (case pcCT => k_is); (case pkCT => k_is)
    (case paCB => k_is); (case plCB => k_is); (case pcCB => k_is); (case pkCB => k_is)
    (case paCO => k_is); (case plCO => k_is); (case pcCO => k_is); (case pkCO => k_is)
    (case paOO => k_is); (case plOO => k_is); (case pcOO => k_is); (case pkOO => k_is)
    (case paD => k_is); (case plD => k_is); (case pcD => k_is); (case pkD => k_is)
    (case paT => k_is); (case plT => k_is); (case pcT => k_is); (case pkT => k_is)
    (case paM => k_is); (case plM => k_is); (case pcM => k_is); (case pkM => k_is)
    (case paH => k_is); (case plH => k_is); (case pcH => k_is); (case pkH => k_is)
    (case paK => k_is); (case plK => k_is); (case pcK => k_is); (case pkK => k_is)
    (case paU => k_is); (case plU => k_is); (case pcU => k_is); (case pkU => k_is)
    (case paP => k_is); (case plP => k_is); (case pcP => k_is); (case pkP => k_is)
    (case paI => k_is); (case plI => k_is); (case pcI => k_is); (case pkI => k_is)
    (case paX => k_is); (case plX => k_is); (case pcX => k_is); (case pkX => k_is)
    (case paSH => k_is); (case plSH => k_is); (case pcSH => k_is); (case pkSH => k_is)
    (case paFA => k_is); (case plFA => k_is); (case pcFA => k_is); (case pkFA => k_is)
    (case paW => k_is); (case plW => k_is); (case pcW => k_is); (case pkW => k_is)
    (case paNE => k_is); (case plNE => k_is); (case pcNE => k_is); (case pkNE => k_is)
    (case paTF => k_is); (case plTF => k_is); (case pcTF => k_is); (case pkTF => k_is)
    (case paR => k_is); (case plR => k_is); (case pcR => k_is); (case pkR => k_is)
    (case paZ => k_is); (case plZ => k_is); (case pcZ => k_is); (case pkZ => k_is)
    (case nTOO => kernel_rfl); (case hCdOO => kernel_rfl)
    (case y1 => k_is)
    (case y2 => k_is)
    (case z1 => k_is); (case z2 => k_is); (case z3 => k_is); (case z4 => k_is); (case z5 => k_is); (case z6 => k_is); (case z7 => k_is); (case z8 => k_is); (case z9 => k_is); (case z10 => k_is); (case z11 => k_is); (case z12 => k_is); (case z13 => k_is)
