import PyProof.Rows.All
import Wide.All
import OpenK.AllK
import Wide.FinOn
import KE.KExcSuper
import HandS.ForMost
import HandS.Exc
import HandS.ExcInit
import HandS.ExcField
import HandS.ExcValue
import HandS.Style
import HandS.Walk
import HandS.IsInst
import HandS.More
import KE.KExcIs
import PyProof.NeKinds
import KE.KEqDict
import HandS.ExcIs
import HandS.TryMany
import HandS.Lambda
import HandS.EndTab
import HandS.CallLocal
import HandS.DictSubView
import HandS.Sort
import HandS.Gcd
import HandS.Wide
import KE.KDictList
import KE.KMathGC
import HandS.Codes
import HandS.WordsExc
import HandS.Strs
import KE.SortData
import KE.DataMinMax
import HandS.Conv
import HandS.Text
import HandS.Nested
import KE.SortKeyHeap
import KE.KSortKey
import PyProof.SliceStr2
import HandS.Comp
import HandS.Words
import KE.KEqSeq
import HandS.TupAny
import PyProof.StrWalks
import PyProof.StrBlock2
import PyProof.FitsStr
import PyProof.Rows.CountFlat
import HandS.SortKw
import KE.DataCmp
import HandS.TryOnly
import PyProof.AutoIntOps
import PyProof.Draws
import PyProof.EnumMake
import KE.GoesMore
import PyProof.ListStr
import PyProof.CollectStr
import PyProof.Rows.SortShellAny
import HandS.Dict
import KE.KDictSum
import HandS.Set
import PySem.Challenge.RW_turnindex_k12_whole_two_rows_never_meet
set_option Elab.async false
set_option linter.all false
set_option maxRecDepth 100000
set_option maxHeartbeats 4000000
/-! ErrKit: an error class of the program: __init__ says super().__init__(text), then keeps its one value. -/
namespace EK
open PySem PySem.W PySem.Calls PyProof.Rows PySem.HandSPX L2
/-! ### the text of such an __init__ -/
def eArgs (f : Str) (p1 p2 : Pos) : Arguments := { posonlyargs := [], args := [{ arg := "self", annotation := none, pos := p1 }, { arg := f, annotation := none, pos := p2 }], vararg := none, kwonlyargs := [], kw_defaults := [], kwarg := none, defaults := [] }
def eBody (f msg : Str) (a1 a2 a3 a4 a5 a6 b1 b2 b3 b4 : Pos) : List Stmt :=
  [.Expr (.Call (.Attribute (.Call (.Name "super" a1) [] [] a2) "__init__" a3) [.Constant (.str msg) 0 a4] [] a5) a6, .Assign [.Attribute (.Name "self" b1) f b2] (.Name f b3) b4]
def eScope (f : Str) : Scope := { kind := .function, names := [(PySem.Str.ofString "self", .local), (f, .local), (PySem.Str.ofString "__class__", .free), (PySem.Str.ofString "super", .globalImplicit)], isGenerator := false, isCoroutine := false, more := [] }

/-- the row super().__init__(msg) of the text, as a call of a method -/
def SupCall (a1 a2 a3 a4 a5 : Pos) (msg : Str) (env : Env) : Prop := ∃ pl : Sem Bool,
  eval (.Call (.Attribute (.Call (.Name "super" a1) [] [] a2) "__init__" a3) [.Constant (.str msg) 0 a4] [] a5) env = (do
    let ov ← attributeBase (.Call (.Name "super" a1) [] [] a2) "__init__" env (eval (.Call (.Name "super" a1) [] [] a2) env)
    standAt a3.atName
    let (g, first) ← holding [ov] (getMethod ov "__init__" pl)
    callWith a5 g first (backTo a5 (starEach [.Constant (.str msg) 0 a4] env)) [])
/-- what the top has written of the class x at C, of its __init__ at fI -/
structure ErrTxt (P : Program) (K : Frag) (mg : Str → Option Value) (x f : Str) (C fI : Addr) : Prop where
  gC : mg x = some (.ref C)
  cls : ∃ nm q N bs bm sn sub ab col dd k0 k1 k2 k3 k5, K.lookup C = some (excClassObj nm q C N bs bm true sn sub ab col dd k0 k1 k2 k3 k5 "ValueError.__new__") ∧ refsVE bm = true
  sa : findIn K (.ref C) "__setattr__" = some (some (.builtin "object.__setattr__"))
  ga : findIn K (.ref C) "__getattribute__" = some (some (.builtin "BaseException.__getattribute__"))
  gg : findIn K (.ref C) "__getattr__" = some none
  noN : findIn K (.ref C) f = some none
  iC : findIn K (.ref C) "__init__" = some (some (.ref fI))
  tC : typeIn K (.ref fI) = some (.type "function")
  kC : keepIn K (.ref C) = true
  exC : subIn K (.ref C) (.type "BaseException") = some true
  tyC : typeIn K (.ref C) = some (.type "type")
  hdC : hasDictIn K C = true
  te : exmOne K (.ref C) (.ref C) = some true
  hB : subIn K (.ref C) (.type "ValueError") = some true
  si : ks_superIn K C C "__init__" = some (some (.builtin "ValueError.__init__"))
  ho : nsIn K cStatics "thirdparty.any" = some none
  su : mg "super" = none
  mC : mroIn K C (.ref C) = some true
  fok : f ≠ "self" ∧ f ≠ "__class__" ∧ f ≠ "super" ∧ f ≠ "__debug__"
  top : (P.main.scope.names.lookup ("super" : Str)).isSome = false
  fn : ∃ (oc : Value) (od : Option Addr) (qn msg : Str) (doc pm : Value) (an : Option Addr) (cda cc : Addr) (ct : Value) (osl : Array (Option Value)) (p1 p2 a1 a2 a3 a4 a5 a6 b1 b2 b3 b4 : Pos),
    K.lookup fI = some ⟨oc, od, .func (ksFn "__init__" qn (eArgs f p1 p2) (eBody f msg a1 a2 a3 a4 a5 a6 b1 b2 b3 b4) (eScope f) .none .none doc pm an (.ref cda) ct cc), osl⟩ ∧ codeIn K (.ref cda) qn = true ∧
    (∀ u v : Value, bindArgs (ksFn "__init__" qn (eArgs f p1 p2) (eBody f msg a1 a2 a3 a4 a5 a6 b1 b2 b3 b4) (eScope f) .none .none doc pm an (.ref cda) ct cc) ⟨[u, v], []⟩ = pure [(("self" : Str), u), (f, v)]) ∧
    (∀ L : Addr, SupCall a1 a2 a3 a4 a5 msg (callEnv (ksFn "__init__" qn (eArgs f p1 p2) (eBody f msg a1 a2 a3 a4 a5 a6 b1 b2 b3 b4) (eScope f) .none .none doc pm an (.ref cda) ct cc) L fI)) ∧
    (∃ (ccl : Value) (cdd : Option Addr) (ccs : Array (Option Value)) (vs : Array Value) (file : Str) (tf : Tok), K.lookup cda = some ⟨ccl, cdd, .fields vs, ccs⟩ ∧ vs[2]? = some (.str file tf) ∧ ((P.main.file : Str) == file) = true) ∧
    ∃ (cl : Value) (cld : Option Addr) (csl : Array (Option Value)), K.lookup cc = some ⟨cl, cld, .cell (some (.ref C)), csl⟩
theorem one_size (v : Value) : [v].length ≤ sizeLine := by
  rw [sizeLine_eq]
  exact (by decide : 1 ≤ 16777216)
/-- what __init__ leaves of the exception at y -/
structure MadeI (h h' : Heap) (y C dx : Addr) (f : Str) (v : Value) : Prop where
  keep : ∀ b o, b ≠ y → h.get? b = some o → h'.get? b = some o
  obj : ∃ t1 : Addr, h'.get? y = some { cls := .ref C, dict := some dx, data := .fields #[.ref t1, .none, .none, .none, .bool false, .none] }
  dbig : h.objs.size ≤ dx
  dne : dx ≠ y
  ns : h'.Ns1 dx (fun z => if z = f then some v else none)
theorem kept_but {K : Frag} {h h' : Heap} {x : Addr} (X : K.In h) (hx : K.lookup x = none) (k : ∀ b o, b ≠ x → h.get? b = some o → h'.get? b = some o) : K.In h' := fun a o e =>
  k a o (fun z => by rw [z, hx] at e; cases e) (X a o e)
section
variable {prog : Program} {w : World} {A : Around} {E : Value → Shared → Prop} {R : Result → Shared → Prop} {s : Shared} {K : Frag} {mg : Str → Option Value} {C fI : Addr} {x f : Str}
/-- the method-wrapper that super().__init__ gives is called -/
theorem call_mw {u e t0 : Addr} {rest : List Value} {nm q : Str} {C N : Addr} {bs bm : List Value} {hdct : Bool} {sn : List Str} {sub : List Value} {ab : Bool} {col : Option Bool} {dd : Option Addr} {k0 k1 k2 k3 k5 : Option Value} {Q : Value → Shared → Prop}
    (hC : s.heap.get? C = some (excClassObj nm q C N bs bm hdct sn sub ab col dd k0 k1 k2 k3 k5 "ValueError.__new__")) (he : s.heap.get? e = some (excO C t0)) (hu : s.heap.get? u = some (kxs_mw "ValueError.__init__" e)) (hrest : rest.length ≤ sizeLine)
    (hq : ∀ h' t1, (∀ b o, b ≠ e → s.heap.get? b = some o → h'.get? b = some o) → h'.get? e = some (excO C t1) → Q .none { s with heap := h' }) :
    wpAny (model prog w) A (call (.ref u) rest) Q E s := by
  obtain ⟨hh, g, d, tk, os⟩ := s
  refine wpAny_call (codeAny_of_tree ?_)
  show wpAny _ A.in1 (callAny (.ref u) ⟨rest, []⟩) _ _ _
  simp only [callAny]
  refine wpAny_bind (wpAny_load hu ?_)
  simp only [kxs_mw, show (Value.type "method-wrapper" == Value.type "method" || Value.type "method-wrapper" == Value.type "builtin_function_or_method" || Value.type "method-wrapper" == Value.type "method-wrapper") = true by decide, if_true]
  refine KFB.if_so (by decide) ?_
  refine wpAny_bind (check_bound_init F.excBase_ValueError.toExcCallFacts hC he rfl ?_)
  refine wpAny_bind (wpAny_pure (wpAny_pure ?_))
  refine ⟨plainId_quiet F.excBase_ValueError.init.plain _, codeAny_builtin F.excBase_ValueError.initEntry ?_⟩
  exact exc_init_tree (cls := .ref C) (t0 := t0) (dv := none) (c2 := .none) (c3 := .none) (b4 := .bool false) he hrest fun h' k o _ => hq h' _ k o
theorem look_self (f : Str) : (eScope f).names.lookup ("self" : Str) = some .local := by
  show List.lookup ("self" : Str) ((("self" : Str), NameKind.local) :: _) = _
  rw [List.lookup_cons]
  simp
theorem look_f {f : Str} (h : f ≠ "self") : (eScope f).names.lookup f = some .local := by
  have e : (f == ("self" : Str)) = false := by simpa using h
  show List.lookup f ((("self" : Str), NameKind.local) :: (f, NameKind.local) :: _) = _
  rw [List.lookup_cons, e, List.lookup_cons]
  simp
theorem look_cls {f : Str} (h : f ≠ "__class__") : (eScope f).names.lookup ("__class__" : Str) = some .free := by
  have e : ((("__class__" : Str)) == f) = false := by simpa using Ne.symm h
  have e2 : ((("__class__" : Str)) == ("self" : Str)) = false := by decide +kernel
  show List.lookup ("__class__" : Str) ((("self" : Str), NameKind.local) :: (f, NameKind.local) :: (("__class__" : Str), NameKind.free) :: _) = _
  rw [List.lookup_cons, e2, List.lookup_cons, e, List.lookup_cons]
  simp
theorem look_super {f : Str} (h : f ≠ "super") : (eScope f).names.lookup ("super" : Str) = some .globalImplicit := by
  have e : ((("super" : Str)) == f) = false := by simpa using Ne.symm h
  have e2 : ((("super" : Str)) == ("self" : Str)) = false := by decide +kernel
  have e3 : ((("super" : Str)) == ("__class__" : Str)) = false := by decide +kernel
  show List.lookup ("super" : Str) ((("self" : Str), NameKind.local) :: (f, NameKind.local) :: (("__class__" : Str), NameKind.free) :: (("super" : Str), NameKind.globalImplicit) :: []) = _
  rw [List.lookup_cons, e2, List.lookup_cons, e, List.lookup_cons, e3, List.lookup_cons]
  simp
theorem bl_self {f : Str} (h : f ≠ "self") (a v : Value) : List.lookup ("self" : Str) ([(("self" : Str), a), (f, v)].reverse) = some a := by
  have e : ((("self" : Str)) == f) = false := by simpa using Ne.symm h
  show List.lookup ("self" : Str) ((f, v) :: (("self" : Str), a) :: []) = _
  rw [List.lookup_cons, e, List.lookup_cons]
  simp
theorem bl_f {f : Str} (a v : Value) : List.lookup f ([(("self" : Str), a), (f, v)].reverse) = some v := by
  show List.lookup f ((f, v) :: (("self" : Str), a) :: []) = _
  rw [List.lookup_cons]
  simp
theorem err_init (T : ErrTxt prog K mg x f C fI) {y t0 : Addr} {v : Value} (X : K.In s.heap) (hlim : s.heap.NoLimit) (hg : s.heap.Ns mainGlobals mg) (hb : ∃ mb, s.heap.Ns builtinsNs mb ∧ ∀ z : Str, z ≠ "__name__" → mb z = bootBuiltins z)
    (hx : s.heap.get? y = some (excO C t0)) (hnx : K.lookup y = none) (hroom : A.depth < recursionLimit)
    (hq : ∀ h' tk dx, MadeI s.heap h' y C dx f v → R (.ok (.ret .none)) { s with heap := h', toks := tk }) :
    codeAny (model prog w) A (.call (.ref fI) ⟨[.ref y, v], []⟩) R s := by
  obtain ⟨oc, od, qn, msg, doc, pm, an, cda, cc, ct, osl, p1, p2, a1, a2, a3, a4, a5, a6, b1, b2, b3, b4, ho, hcd, hB, hS, ⟨ccl, cdd, ccs, vs, file, tf, hcda, hvs, hfile⟩, ⟨cl, cld, csl, hcell⟩⟩ := T.fn
  obtain ⟨nm, q, N, bs, bm, sn, sub, ab, col, dd, k0, k1, k2, k3, k5, hC, hbm⟩ := T.cls
  obtain ⟨mb, hbn, hbv⟩ := hb
  obtain ⟨hf1, hf2, hf3, hf4⟩ := T.fok
  have hcl : clsIn K C = some { name := nm, bases := bs, mro := .ref C :: bm, ns := N, qualname := q, hasDict := true, slotNames := sn, subclasses := sub, abstract := ab, collection := col, hasDel := false } := by unfold clsIn; rw [hC] <;> rfl
  refine ks_codeAny_call_defAt (fd := ksFn "__init__" qn (eArgs f p1 p2) (eBody f msg a1 a2 a3 a4 a5 a6 b1 b2 b3 b4) (eScope f) .none .none doc pm an (.ref cda) ct cc) (body := eBody f msg a1 a2 a3 a4 a5 a6 b1 b2 b3 b4) (binds := [(("self" : Str), Value.ref y), (f, v)]) hroom (X _ _ ho) rfl hlim (codeRec_of X hcd) rfl (BindsTo.of_eq (hB _ _)) ?_ ?_ (fun h₁ hns k => ?_) rfl rfl rfl
  · intro z hz
    rcases List.mem_cons.mp hz with rfl | hz
    · exact fun e => nomatch e
    rcases List.mem_cons.mp hz with rfl | hz
    · exact fun e => nomatch e
    rcases List.mem_cons.mp hz with rfl | hz
    · exact fun e => nomatch e
    rcases List.mem_cons.mp hz with rfl | hz
    · exact fun e => nomatch e
    · cases hz
  · intro z hz
    rcases List.mem_cons.mp hz with rfl | hz
    · exact look_self f
    rcases List.mem_cons.mp hz with rfl | hz
    · exact look_f hf1
    · cases hz
  · have X₁ : K.In h₁ := X.keeps k
    have hyL : s.heap.objs.size ≠ y := Nat.ne_of_gt (Heap.lt_size hx)
    have ks : (callEnv (ksFn "__init__" qn (eArgs f p1 p2) (eBody f msg a1 a2 a3 a4 a5 a6 b1 b2 b3 b4) (eScope f) .none .none doc pm an (.ref cda) ct cc) s.heap.objs.size fI).kindOf "super" = some .globalImplicit := look_super hf3
    obtain ⟨oD, hD⟩ : ∃ oD, h₁.get? C = some oD ∧ ∃ cd : ClassData, oD.data = .cls cd := ⟨_, X₁ _ _ hC, _, rfl⟩
    obtain ⟨hD1, cdD, hD2⟩ := hD
    have IY : ∀ {h : Heap}, h.get? y = some (excO C t0) → InstAt h y (excO C t0) C none := fun e => ⟨e, rfl, rfl, trivial⟩
    have hyC : y ≠ C := fun z => by rw [z, hC] at hnx; cases hnx
    obtain ⟨pl, hpl⟩ := hS s.heap.objs.size
    refine ks_wpAt_execs_cons (ks_wpAt_Expr_any (ks_wpAt_MethodCall ?_ hpl) (by rfl) (by rfl))
    refine ks_wpAt_super_base ks (look_cls hf2) (by decide +kernel) rfl (X₁ _ _ ho) rfl rfl rfl (X₁ _ _ hcda) rfl hvs hfile T.top ?_
    refine ks_loadName_global rfl ks (loadGlobal_builtin (hg.keeps k) T.su (hbn.keeps k) (hbv _ (by decide +kernel)) ⟨by rfl, ?_⟩)
    refine wpAny_loadName_free rfl (look_cls hf2) rfl ⟨_, X₁ _ _ hcell, rfl⟩ ?_
    refine wpAny_loadName_local rfl (look_self f) hns (bl_self hf1 _ _) ?_
    refine ks_wpAny_isType_cls hD1 hD2 ⟨rfl, ?_⟩
    refine ks_wpAny_call_super hD1 hD2 (k _ _ hx) rfl (fun c e => nomatch e) (looks_mroIn X₁ T.mC) (fun h2 hso k2 => ?_)
    have X2 : K.In h2 := X₁.keeps k2
    refine kxs_getMethod kxs_ValueError hso (looks_opaque X2 T.ho) (l₀ := .ref C :: bm) ((looks_clsIn X2 hcl).andThen .now) rfl X2 ?_ ((IY (k2 _ _ (k _ _ hx))).type.andThen (looks_subIn X2 T.hB)) hyC (by decide +kernel) ?_
    · have e := T.si
      unfold ks_superIn at e
      rw [hcl] at e
      exact e
    have k3 : ∀ b o, h2.get? b = some o → (h2.push (kxs_mw "ValueError.__init__" y)).get? b = some o := fun b o e => Heap.get?_push_of_some _ e
    have hu : (h2.push (kxs_mw "ValueError.__init__" y)).get? h2.objs.size = some (kxs_mw "ValueError.__init__" y) := Heap.get?_push_at rfl rfl
    refine kxs_callWith (i := "ValueError.__init__") (x := y) (by rfl) (evalArgs_plain (Calls.spliced_cons (Calls.Constant_str (k := 0) (pos := a4) (Calls.spliced_nil ⟨hu, ?_⟩))))
    refine call_mw (X2.keeps k3 _ _ hC) (k3 _ _ (k2 _ _ (k _ _ hx))) hu (one_size _) fun h4 t1 k4 hy4 => ?_
    have X4 : K.In h4 := kept_but (X2.keeps k3) hnx k4
    have kk : ∀ b o, b ≠ y → h₁.get? b = some o → h4.get? b = some o := fun b o n e => k4 b o n (k3 b o (k2 b o e))
    have n4 : h4.Ns s.heap.objs.size fun z => [(("self" : Str), Value.ref y), (f, v)].reverse.lookup z := by
      obtain ⟨o, es, ep, e1, r⟩ := hns
      exact ⟨o, es, ep, kk _ _ hyL e1, r⟩
    have hfd : (f == ("__debug__" : Str)) = false := by simpa using hf4
    refine wpAt_of_wpAny (wpAny_execs_cons (plainObj_wpAny_Assign_Attribute ?_))
    refine wpAny_Name (wpAny_loadName_local rfl (look_f hf1) n4 (bl_f _ _) ?_) hfd
    refine wpAny_Name (wpAny_loadName_local rfl (look_self f) n4 (bl_self hf1 _ _) ?_) (by decide +kernel)
    refine set_plain X4 (ox := excO C t1) (od := none) ⟨hy4, rfl, rfl, trivial⟩ T.sa ?_
    refine exc_osa X4 hy4 hcl (show refsVE (.ref C :: bm) = true from hbm) rfl T.noN (fun h5 tk5 dx k5 dn dne hx5 hn5 => ?_)
    refine wpAny_execs_nil (hq h5 tk5 dx ⟨fun b o hb e => k5 b o hb (kk b o hb (k b o e)), ⟨_, hx5⟩, ?_, dne, hn5⟩)
    have z1 : s.heap.objs.size < h4.objs.size := n4.lt
    exact Nat.le_of_lt (Nat.lt_of_lt_of_le z1 dn)
/-- an error that was made: the object at e, its own dict at d -/
structure MadeE (h h' : Heap) (e C d : Addr) (f : Str) (v : Value) : Prop where
  keep : ∀ b o, h.get? b = some o → h'.get? b = some o
  new : h.objs.size ≤ e
  obj : ∃ t1 : Addr, h'.get? e = some { cls := .ref C, dict := some d, data := .fields #[.ref t1, .none, .none, .none, .bool false, .none] }
  dbig : h.objs.size ≤ d
  dne : d ≠ e
  ns : h'.Ns1 d (fun z => if z = f then some v else none)
theorem not_in {K : Frag} {h : Heap} {a : Addr} (X : K.In h) (ha : h.objs.size ≤ a) : K.lookup a = none := by
  cases e : K.lookup a with
  | none => rfl
  | some o => exact absurd (Nat.lt_of_lt_of_le (Heap.lt_size (X _ _ e)) ha) (Nat.lt_irrefl _)
theorem err_made (T : ErrTxt prog K mg x f C fI) {v : Value} (X : K.In s.heap) (hlim : s.heap.NoLimit) (hg : s.heap.Ns mainGlobals mg) (hb : ∃ mb, s.heap.Ns builtinsNs mb ∧ ∀ z : Str, z ≠ "__name__" → mb z = bootBuiltins z)
    (hroom : A.depth + 1 < recursionLimit) (hq : ∀ h' tk e d, MadeE s.heap h' e C d f v → R (.ok (.ret (.ref e))) { s with heap := h', toks := tk }) :
    codeAny (model prog w) A (.call (.ref C) ⟨[v], []⟩) R s := by
  obtain ⟨nm, q, N, bs, bm, sn, sub, ab, col, dd, k0, k1, k2, k3, k5, hC, hbm⟩ := T.cls
  obtain ⟨mb, hbn, hbv⟩ := hb
  obtain ⟨hp, g, dr, tk, os⟩ := s
  have k : ∀ b o, hp.get? b = some o → ((hp.push (kdv_tup [v])).push (excO C hp.objs.size)).get? b = some o := fun b o e => Heap.get?_push_of_some _ (Heap.get?_push_of_some _ e)
  have hget : ((hp.push (kdv_tup [v])).push (excO C hp.objs.size)).get? (hp.objs.size + 1) = some (excO C hp.objs.size) := by heap_get
  have hnx : K.lookup (hp.objs.size + 1) = none := not_in X (Nat.le_succ _)
  refine call_own F.excBase_ValueError (fun X => refsVE_contains X bm hbm) (X _ _ hC) (looks_findIn X T.iC) (fun self => bind_fn X self T.tC) (one_size v) ?_
  refine err_init (s := ⟨(hp.push (kdv_tup [v])).push (excO C hp.objs.size), g, dr, tk, os⟩) T (X.keeps k) (hlim.keeps k) (hg.keeps k) ⟨mb, hbn.keeps k, hbv⟩ hget hnx ?_ fun h' tk' dx ⟨k', ⟨t1, hx⟩, dn, dne, hns⟩ => ?_
  · show A.depth + 1 < recursionLimit
    exact hroom
  · have old : ∀ b o, hp.get? b = some o → h'.get? b = some o := fun b o e => k' b o (Nat.ne_of_lt (Nat.lt_succ_of_lt (Heap.lt_size e))) (k b o e)
    have z : hp.objs.size + 1 + 1 ≤ dx := by
      have q := dn
      rw [Heap.size_push, Heap.size_push] at q
      exact q
    exact ⟨rfl, hq h' tk' (hp.objs.size + 1) dx ⟨old, Nat.le_succ _, ⟨t1, hx⟩, Nat.le_trans (Nat.le_trans (Nat.le_succ _) (Nat.le_succ _)) z, dne, hns⟩⟩
end
end EK
namespace L2
open PySem PySem.Spec PyProof.Rows EK
theorem relO_one {f : Str} {v : V} {u : Value} (r : RelV v u) (g : Str) : RelO (List.lookup g [(f, v)]) (if g = f then some u else none) := relO_put (fs := []) (mA := fun _ => none) r (fun _ => True.intro) g
section
variable {X : Cx} {C fI : Addr} {x f : Str}
/-- x(e) as a value: a new error at a, its dict at d -/
def tErrV (C : Addr) (f : Str) (ta : TA) : TE := fun σ H Q => ta σ H fun vs H1 => ∃ v, vs = [v] ∧ ∀ a d, H1 a = none → H1 d = none → d ≠ a → Q (.ref a) (upd (upd H1 d (exd d [(f, v)])) a (exo a C (some d)))
theorem pe_errV {a : Expr} {ta : TA} {p pos : Pos} {k : Nat} (T : ErrTxt X.prog X.K X.mg x f C fI) (hr : Room k X.A) (ha : PA X [a] ta) (hg : Gl X x) (hd : (x == ("__debug__" : Str)) = false := by decide)
    (he : starEach (a :: []) X.env = (false, eval a X.env) :: starEach [] X.env := by rfl) (hpl : (backTo pos (starEach [] X.env)).any (·.1) = false := by rfl) :
    PE X (.Call (.Name x p) [a] [] pos) (tErrV C f ta) := by
  refine ⟨fun pins s σ H Q I h => ?_⟩
  refine wpAny_Call_Name_kw (ld_glob I hg T.gC ?_ hd)
  refine PySem.W.callWith_K (h₀ := X.base) I.ok.mod.kin T.kC (thn (ha.run pos pins s σ H _ I h) fun us s1 hh => ?_) he hpl
  obtain ⟨vs, H1, I1, r1, v, ev, q1⟩ := hh
  subst ev
  refine ⟨I1.kIn, ?_⟩
  cases r1 with
  | cons rv rn =>
    rename_i v' us'
    cases rn
    show wpAny _ _ (call (.ref C) [v']) _ _ _
    have hlim := I1.nolimit
    obtain ⟨hp, g, dr, tk, os⟩ := s1
    obtain ⟨mb, hb1, hb2⟩ := I1.mod.blt
    refine wpAny_call (err_made T I1.kIn hlim (I1.mod.glob.keeps I1.bk) ⟨mb, hb1.keeps I1.bk, hb2⟩ (by have := hr.dp; omega) fun h' tk' e d M => ?_)
    obtain ⟨t1, hoe⟩ := M.obj
    have nd : H1 d = none := I1.hok.fresh M.dbig
    have ne : H1 e = none := I1.hok.fresh M.new
    obtain ⟨G, g1, g2⟩ := restrict h' fun b => decide (b ≠ e)
    have gk : ∀ b, b ≠ e → G.get? b = h'.get? b := fun b hb => g1 b (decide_eq_true hb)
    have ge : G.get? e = none := g2 e (by simp)
    have old : ∀ b o, hp.get? b = some o → G.get? b = some o := fun b o q => (gk b (Nat.ne_of_lt (Nat.lt_of_lt_of_le (Heap.lt_size q) M.new))).trans (M.keep b o q)
    have gs : ∀ b o, G.get? b = some o → h'.get? b = some o := fun b o q => by
      by_cases hbe : b = e
      · rw [hbe, ge] at q
        cases q
      · exact (gk b hbe).symm.trans q
    have J : Inv X pins σ (upd H1 d (exd d [(f, v)])) ⟨G, g, dr, tk', os⟩ := I1.laid (t' := tk') old M.dbig (exd_ok (M.ns.at fun o q => (gk d M.dne).trans q) (relO_one rv))
    have hne : (upd H1 d (exd d [(f, v)])) e = none := by
      rw [upd_ne (Ne.symm M.dne)]
      exact ne
    exact ⟨.ref e, _, J.laidN (t' := tk') gs ge hne (exo_ok hoe), rfl, q1 e d ne nd M.dne⟩
/-- a field of an error, read -/
def tErrF (K : PySem.W.Frag) (f : Str) (te : TE) : TE := fun σ H Q => te σ H fun x H1 => ∃ (a C d : Addr) (fs : List (Str × V)) (v : V), x = .ref a ∧ H1 a = some (exo a C (some d)) ∧ H1 d = some (exd d fs) ∧ XfC K C ∧ PySem.W.findIn K (.ref C) f = some none ∧ fs.lookup f = some v ∧ Q v H1
theorem pe_errF {e : Expr} {te : TE} {pos : Pos} (he : PE X e te) (hb : attributeBase e f X.env (eval e X.env) = eval e X.env := by rfl) : PE X (.Attribute e f pos) (tErrF X.K f te) := by
  refine ⟨fun pins s σ H Q I h => ?_⟩
  refine attr_of hb (thn (he.run pins s σ H _ I h) fun u s1 hh => ?_)
  obtain ⟨y, H1, I1, ry, a, C, d, fs, v, ey, ea, ed, T, hno, l, q⟩ := hh
  subst ey
  obtain rfl : u = Value.ref a := ry
  obtain ⟨t1, ha⟩ := exo_at I1.hok ea
  obtain ⟨mA, hns, hr⟩ := exd_at I1.hok ed
  obtain ⟨od, ho, hl⟩ := lookIn_ns hns
  obtain ⟨u, hu, ru⟩ := RelO.some_of (v := v) (o := mA f) (by rw [← l]; exact hr f)
  have J : PySem.W.InstAt s1.heap a _ C (some od) := ⟨ha, rfl, rfl, ho⟩
  exact HandSPX.exc_get I1.kIn J T.ga T.gg T.exC (PySem.W.findObj_own T.hdC hno rfl (by rw [hl, hu])) (handed_of ru) ⟨v, H1, I1.tok _, ru, q⟩
end
end L2

set_option Elab.async false
set_option linter.all false
set_option maxRecDepth 100000
set_option maxHeartbeats 4000000
/-! EqKit: things that are told equal, whatever they hold; isinstance of errors. -/
namespace L2
open PySem PySem.Spec PyProof.Rows
/-- x and y compare equal, at most n deep: one thing, or lists, tuples of such -/
inductive Sm (K : PySem.W.Frag) (H : Hp) : Nat → V → V → Prop
  | rf {n : Nat} (x : V) (h : ∀ b, x ≠ .flt b) : Sm K H n x x
  | ls {n : Nat} {a b : Addr} {xs ys : List V} (h1 : SqL K H a xs) (h2 : SqL K H b ys) (hl : xs.length = ys.length) (h : ∀ (i : Nat) x y, xs[i]? = some x → ys[i]? = some y → Sm K H n x y) : Sm K H (n + 1) (.ref a) (.ref b)
  | tp {n : Nat} {a b : Addr} {xs ys : List V} (h1 : SqT K H a xs) (h2 : SqT K H b ys) (hl : xs.length = ys.length) (h : ∀ (i : Nat) x y, xs[i]? = some x → ys[i]? = some y → Sm K H n x y) : Sm K H (n + 1) (.ref a) (.ref b)
section
variable {X : Cx} {pins : List (Addr × Obj)} {σ : St} {H : Hp} {s : Shared}
theorem sm_items {xs ys : List V} {us vs : List Value} {A : Around} (rx : Vals xs us) (ry : Vals ys vs)
    (h : ∀ (i : Nat) x y, xs[i]? = some x → ys[i]? = some y → ∀ u v, RelV x u → RelV y v → SeqAt.EqAt A s u v true) :
    ∀ j (h1 : j < us.toArray.size) (h2 : j < vs.toArray.size), SeqAt.EqAt A s us.toArray[j] vs.toArray[j] true := by
  intro j h1 h2
  have l1 := rx.length
  have l2 := ry.length
  have j1 : j < xs.length := by rw [l1]; simpa using h1
  have j2 : j < ys.length := by rw [l2]; simpa using h2
  obtain ⟨u, e1, r1⟩ := rx.get (List.getElem?_eq_getElem j1)
  obtain ⟨v, e2, r2⟩ := ry.get (List.getElem?_eq_getElem j2)
  have f1 : us.toArray[j] = u := by
    have q : us[j]? = some (us[j]'(by simpa using h1)) := List.getElem?_eq_getElem _
    rw [e1] at q
    simpa using (Option.some.inj q).symm
  have f2 : vs.toArray[j] = v := by
    have q : vs[j]? = some (vs[j]'(by simpa using h2)) := List.getElem?_eq_getElem _
    rw [e2] at q
    simpa using (Option.some.inj q).symm
  rw [f1, f2]
  exact h j _ _ (List.getElem?_eq_getElem j1) (List.getElem?_eq_getElem j2) u v r1 r2
theorem all_true {n : Nat} : ((List.range n).all fun _ => true) = true := by
  induction n with
  | zero => rfl
  | succ n ih => simp
theorem sm_at (I : Inv X pins σ H s) : ∀ {n : Nat} {x y : V} {u v : Value} {A : Around}, Sm X.K H n x y → RelV x u → RelV y v → A.units + n < cLine → SeqAt.EqAt A s u v true := by
  intro n x y u v A h
  induction h generalizing u v A with
  | rf x hf =>
    intro r1 r2 _
    cases x with
    | non => cases r1; cases r2; exact .same _
    | bl b => cases r1; cases r2; exact .same _
    | int i =>
      obtain ⟨t, rfl⟩ := r1
      obtain ⟨t', rfl⟩ := r2
      have q := SeqAt.EqAt.int_int (A := A) (s := s) i t i t'
      rw [beq_self_eq_true] at q
      exact q
    | str z =>
      obtain ⟨t, rfl⟩ := r1
      obtain ⟨t', rfl⟩ := r2
      have q := SeqAt.EqAt.str_str (A := A) (s := s) z t z t'
      rw [beq_self_eq_true] at q
      exact q
    | byt b =>
      obtain ⟨t, rfl⟩ := (show ∃ t, u = Value.bytes b t from r1)
      obtain ⟨t', rfl⟩ := (show ∃ t, v = Value.bytes b t from r2)
      exact fun prog w E Q h => PySem.W.eqBool_bytes (by simpa using h)
    | flt b => exact absurd rfl (hf b)
    | ref a => cases r1; cases r2; exact .same _
    | ty n => cases r1; cases r2; exact .same _
  | @ls n a b xs ys h1 h2 hl _ ih =>
    intro r1 r2 hu
    cases r1; cases r2
    by_cases e : a = b
    · rw [e]; exact .same _
    · obtain ⟨us, ru, ⟨o, m, ho, hc, _, hd⟩, _⟩ := I.list h1
      obtain ⟨vs, rv, ⟨o', m', ho', hc', _, hd'⟩, _⟩ := I.list h2
      have hs : us.toArray.size = vs.toArray.size := by simp only [List.size_toArray]; rw [← ru.length, ← rv.length, hl]
      refine .of_refs e ?_
      have q := SeqAt.RcAt.lists (A := A) (s := s) (e := fun _ => true) ⟨o, ho, hc, m, hd⟩ ⟨o', ho', hc', m', hd'⟩ hs (by omega) (sm_items (A := A.in1) ru rv fun i x y e1 e2 u v s1 s2 => ih i x y e1 e2 s1 s2 (by show A.units + 1 + n < cLine; omega))
      rw [all_true] at q
      exact q
  | @tp n a b xs ys h1 h2 hl _ ih =>
    intro r1 r2 hu
    cases r1; cases r2
    by_cases e : a = b
    · rw [e]; exact .same _
    · obtain ⟨us, ru, ⟨o, ho, hc, m, hd⟩, _⟩ := I.tuple h1
      obtain ⟨vs, rv, ⟨o', ho', hc', m', hd'⟩, _⟩ := I.tuple h2
      have hs : us.toArray.size = vs.toArray.size := by simp only [List.size_toArray]; rw [← ru.length, ← rv.length, hl]
      refine .of_refs e ?_
      have q := SeqAt.RcAt.tuples (A := A) (s := s) (e := fun _ => true) ⟨o, ho, hc, m, hd⟩ ⟨o', ho', hc', m', hd'⟩ (by omega) (sm_items (A := A.in1) ru rv fun i x y e1 e2 u v s1 s2 => ih i x y e1 e2 s1 s2 (by show A.units + 1 + n < cLine; omega))
      rw [all_true, hs, beq_self_eq_true] at q
      exact q
/-- what may stand on both sides of a comparison that is told equal -/
inductive SmT (K : PySem.W.Frag) (H : Hp) : V → V → Prop
  | sc (x : V) (h : scal x x = true) : SmT K H x x
  | ls {a b : Addr} {xs ys : List V} (h1 : SqL K H a xs) (h2 : SqL K H b ys) (hl : xs.length = ys.length) (h : ∀ (i : Nat) x y, xs[i]? = some x → ys[i]? = some y → Sm K H 60 x y) : SmT K H (.ref a) (.ref b)
  | tp {a b : Addr} {xs ys : List V} (h1 : SqT K H a xs) (h2 : SqT K H b ys) (hl : xs.length = ys.length) (h : ∀ (i : Nat) x y, xs[i]? = some x → ys[i]? = some y → Sm K H 60 x y) : SmT K H (.ref a) (.ref b)
  | dk {a b : Addr} {kvs : List (Key × V)} (h1 : H a = some (.dK kvs)) (h2 : H b = some (.dK kvs)) (nd : (kvs.map (·.1)).Nodup) (fl : ∀ p ∈ kvs, flatB p.2 = true) : SmT K H (.ref a) (.ref b)
theorem op_neS (hu : X.A.units + 64 < cLine) : OpR X (compareOp .NotEq) (fun x y H Q => SmT X.K H x y ∧ Q (.bl false) H) := by
  intro pins s σ H x y v u Q I rx ry ⟨h, q⟩
  cases h with
  | sc x h => exact op_ne pins s σ H x x v u Q I rx ry ⟨h, by rw [decide_eq_true rfl]; exact q⟩
  | ls h1 h2 hl h =>
    cases rx; cases ry
    obtain ⟨us, ru, ⟨o, m, ho, hc, _, hd⟩, _⟩ := I.list h1
    obtain ⟨vs, rv, ⟨o', m', ho', hc', _, hd'⟩, _⟩ := I.list h2
    have hs : us.toArray.size = vs.toArray.size := by simp only [List.size_toArray]; rw [← ru.length, ← rv.length, hl]
    have z := SeqAt.RcNeAt.lists (A := X.A) (s := s) (e := fun _ => true) ⟨o, ho, hc, m, hd⟩ ⟨o', ho', hc', m', hd'⟩ hs (by omega) (sm_items (A := X.A.in1) ru rv fun i x y e1 e2 u v s1 s2 => sm_at I (h i x y e1 e2) s1 s2 (by show X.A.units + 1 + 60 < cLine; omega))
    rw [all_true] at z
    exact z X.prog X.w _ _ ⟨.bl false, H, I, rfl, q⟩
  | tp h1 h2 hl h =>
    cases rx; cases ry
    obtain ⟨us, ru, ⟨o, ho, hc, m, hd⟩, _⟩ := I.tuple h1
    obtain ⟨vs, rv, ⟨o', ho', hc', m', hd'⟩, _⟩ := I.tuple h2
    have hs : us.toArray.size = vs.toArray.size := by simp only [List.size_toArray]; rw [← ru.length, ← rv.length, hl]
    have z := SeqAt.RcNeAt.tuples (A := X.A) (s := s) (e := fun _ => true) ⟨o, ho, hc, m, hd⟩ ⟨o', ho', hc', m', hd'⟩ (by omega) (sm_items (A := X.A.in1) ru rv fun i x y e1 e2 u v s1 s2 => sm_at I (h i x y e1 e2) s1 s2 (by show X.A.units + 1 + 60 < cLine; omega))
    rw [all_true, hs, beq_self_eq_true] at z
    exact z X.prog X.w _ _ ⟨.bl false, H, I, rfl, q⟩
  | @dk a b kvs h1 h2 nd fl =>
    cases rx; cases ry
    obtain ⟨_, ya, va, ra, da⟩ := (show ObjOk X.prog X.w H s.heap a (.dK kvs) from I.hok a _ h1)
    obtain ⟨_, yb, vb, rb, db⟩ := (show ObjOk X.prog X.w H s.heap b (.dK kvs) from I.hok b _ h2)
    have hl : va.length = vb.length := ra.length.symm.trans rb.length
    exact PySem.W.keq_ne (knd := mixKind X.prog X.w) (r := true) ya yb da db (by omega) (fun _ => hits_all rb ra fun p hp => ⟨val_nodup nd p hp, fl p hp⟩) (fin_bl I q (by simp [hl]))
theorem op_eqS (hu : X.A.units + 64 < cLine) : OpR X (compareOp .Eq) (fun x y H Q => SmT X.K H x y ∧ Q (.bl true) H) := by
  intro pins s σ H x y v u Q I rx ry ⟨h, q⟩
  cases h with
  | sc x h => exact op_eq pins s σ H x x v u Q I rx ry ⟨h, by rw [decide_eq_true rfl]; exact q⟩
  | ls h1 h2 hl h =>
    cases rx; cases ry
    obtain ⟨us, ru, ⟨o, m, ho, hc, _, hd⟩, _⟩ := I.list h1
    obtain ⟨vs, rv, ⟨o', m', ho', hc', _, hd'⟩, _⟩ := I.list h2
    have hs : us.toArray.size = vs.toArray.size := by simp only [List.size_toArray]; rw [← ru.length, ← rv.length, hl]
    have z := SeqAt.RcAt.lists (A := X.A) (s := s) (e := fun _ => true) ⟨o, ho, hc, m, hd⟩ ⟨o', ho', hc', m', hd'⟩ hs (by omega) (sm_items (A := X.A.in1) ru rv fun i x y e1 e2 u v s1 s2 => sm_at I (h i x y e1 e2) s1 s2 (by show X.A.units + 1 + 60 < cLine; omega))
    rw [all_true] at z
    exact z X.prog X.w _ _ ⟨.bl true, H, I, rfl, q⟩
  | tp h1 h2 hl h =>
    cases rx; cases ry
    obtain ⟨us, ru, ⟨o, ho, hc, m, hd⟩, _⟩ := I.tuple h1
    obtain ⟨vs, rv, ⟨o', ho', hc', m', hd'⟩, _⟩ := I.tuple h2
    have hs : us.toArray.size = vs.toArray.size := by simp only [List.size_toArray]; rw [← ru.length, ← rv.length, hl]
    have z := SeqAt.RcAt.tuples (A := X.A) (s := s) (e := fun _ => true) ⟨o, ho, hc, m, hd⟩ ⟨o', ho', hc', m', hd'⟩ (by omega) (sm_items (A := X.A.in1) ru rv fun i x y e1 e2 u v s1 s2 => sm_at I (h i x y e1 e2) s1 s2 (by show X.A.units + 1 + 60 < cLine; omega))
    rw [all_true, hs, beq_self_eq_true] at z
    exact z X.prog X.w _ _ ⟨.bl true, H, I, rfl, q⟩
  | @dk a b kvs h1 h2 nd fl =>
    exact op_eq_dict (by omega) pins s σ H _ _ v u Q I rx ry ⟨a, b, kvs, rfl, rfl, h1, h2, nd, fl, q⟩
/-- isinstance(e, c), e an error that is held as a value -/
def rIsErr (K : PySem.W.Frag) : List V → Hp → VK → Prop := fun xs H Q => ∃ (a C : Addr) (d : Option Addr) (fs : List (Str × V)) (c : V) (u : Value) (b : Bool), xs = [.ref a, c] ∧ H a = some (exo a C d) ∧ (∀ dd, d = some dd → H dd = some (exd dd fs)) ∧ ExcC K C ∧ ClsV c u ∧ PySem.W.kitOne K (.ref C) u = some b ∧ Q (.bl b) H
theorem call_isErr : CallR X (.builtin "isinstance") (rIsErr X.K) := by
  intro pins s σ H xs us Q I r h
  obtain ⟨a, C, d, fs, c, u, b, rfl, ea, ed, T, k, e, q⟩ := h
  obtain ⟨u1, u2, rfl, r1, r2⟩ := vals2 r
  have e2 := k.eq r2
  subst e2
  cases r1
  obtain ⟨t1, ha⟩ := exo_at I.hok ea
  have hcl : (PySem.W.clsIn X.K C).isSome = true := by
    obtain ⟨cd, hc, _⟩ := PySem.W.any_some T.hd
    rw [hc]
    rfl
  cases d with
  | none => exact PySem.W.kia_one (PySem.W.kitx_exc (od := none) hcl T.hg T.hk T.hs T.ha T.hn T.ht T.hm) I.kIn (show PySem.W.InstAt s.heap a _ C none from ⟨ha, rfl, rfl, trivial⟩) e (fun z => nomatch z) fun tk => ⟨.bl b, H, I.tok tk, rfl, q⟩
  | some dd =>
    obtain ⟨mA, ⟨od, es, ep, ho, hr⟩, _⟩ := exd_at I.hok (ed dd rfl)
    exact PySem.W.kia_one (PySem.W.kitx_exc (od := some od) hcl T.hg T.hk T.hs T.ha T.hn T.ht T.hm) I.kIn (show PySem.W.InstAt s.heap a _ C (some od) from ⟨ha, rfl, rfl, ho⟩) e (fun z => nomatch z) fun tk => ⟨.bl b, H, I.tok tk, rfl, q⟩
end
end L2

set_option Elab.async false
set_option linter.all false
set_option maxRecDepth 100000
set_option maxHeartbeats 4000000
namespace T12
open PySem L2
def top (i : Nat) : Stmt := PySem.Challenge.pw_turnindex_k12_whole_two_rows_never_meet.main.body.getD i (.Pass ⟨0, 0, 0, 0⟩)
abbrev sWell : Stmt := top 18
abbrev sDraw : Stmt := top 19
abbrev sOne : Stmt := top 20
/-- a well of draws: its own digits left, its number, how often it was asked -/
def WellAt (H : Hp) (a : Addr) (n : Int) : Prop := ∃ w0 w1 w2 : Int, H a = some (.lst [.int w0, .int w1, .int w2]) ∧ 0 ≤ w1 ∧ w1 < 2147483647 ∧ 0 ≤ w2 ∧ w2 ≤ n
def KeepB (a : Addr) (H H' : Hp) : Prop := ∀ b o, H b = some o → b ≠ a → H' b = some o
def spWell : Sp := fun vs H Q _ => ∃ c : Int, vs = [.int c] ∧ ∀ p H', H p = none → WellAt H' p 0 → Same H H' → Q (.ref p) H'
def spDraw : Sp := fun vs H Q _ => ∃ (a : Addr) (m n : Int), vs = [.ref a, .int m] ∧ WellAt H a n ∧ n ≤ 1000000 ∧ 0 < m ∧ m < 1073741824 ∧ ∀ (d : Int) H', 0 ≤ d → d < m → WellAt H' a (n + 1) → KeepB a H H' → Q (.int d) H'
structure TxtD (K : PySem.W.Frag) (mg : Str → Option Value) : Prop where
  int : mg "int" = none
  len : mg "len" = none
theorem well_at (n : Int) (h : 0 ≤ n) (w : n < 7) : ∃ p : Int, atI [V.int 2147483647, V.int 2147483629, V.int 2147483587, V.int 2147483579, V.int 2147483563, V.int 2147483549, V.int 2147483543] n = some (V.int p) ∧ 0 < p ∧ p ≤ 2147483647 := by
  obtain e | e | e | e | e | e | e : n = 0 ∨ n = 1 ∨ n = 2 ∨ n = 3 ∨ n = 4 ∨ n = 5 ∨ n = 6 := by omega
  all_goals (subst e; exact ⟨_, rfl, by decide, by decide⟩)
section
variable {P : Program} {w : World} {K : PySem.W.Frag} {mg : Str → Option Value} {base : Heap}
theorem scWell : FnScope ["_law_cell"] ["_law_cell"] (defScope sWell) := ⟨rfl, rfl, rfl, by decide +kernel, rfl, by decide +kernel, by decide +kernel⟩
theorem ok_well {f : Addr} {fd : FuncData} (F : Fun K "_law_well" "_law_well" sWell f fd) (T : TxtD K mg) : FnOk P w K mg base CX0 1 f fd ["_law_cell"] spWell := by
  refine F.ok scWell (fun vs H Q E h => ?_) (fun cdv A outer s H vs Q E hr h => ?_)
  · obtain ⟨c, rfl, _⟩ := h
    rfl
  · obtain ⟨c, rfl, k⟩ := h
    refine ⟨_, pss_one (ps_ret (pe_lst (pa_cons (pe_op op_mul (pv 0) (pe_callTy call_int1 (by rfl) T.int (by decide +kernel) (pa_cons (pe_cmpR op_ge (pv 0) (pe_op op_pow pe_int pe_int) (nomark _)) pa_nil)))
      (pa_cons (pe_op op_mod (pe_callTy call_int1 (by rfl) T.int (by decide +kernel) (pa_cons (pv 0) pa_nil)) pe_int) (pa_cons pe_int pa_nil))))), ?_⟩
    refine ⟨_, rfl, _, rfl, _, _, rfl, rfl, ⟨by decide, by decide, by decide⟩, _, _, rfl, rfl, .inr ⟨_, rfl, _, _, rfl, rfl, .inr ?_, ?_⟩⟩
    · by_cases h : (10 : Int) ^ (18 : Int).toNat ≤ c
      · rw [decide_eq_true h]; decide
      · rw [decide_eq_false h]; decide
    refine ⟨_, rfl, .inl ⟨_, rfl, _, _, rfl, rfl, (by show (0 : Int) < 2147483647; decide), (by show 3 ≤ sizeLine; decide), fun p hp => ?_⟩⟩
    refine k p _ hp ⟨_, _, _, upd_same, Int.emod_nonneg _ (by decide), Int.emod_lt_of_pos _ (by decide), by decide, by decide⟩ fun b o e => ?_
    rw [upd_ne (ne_of_none e hp)]
    exact e
theorem scDraw : FnScope ["_law_well_here", "_law_many", "_law_digit", "_law_prime", "_law_number"] ["_law_well_here", "_law_many"] (defScope sDraw) := ⟨rfl, rfl, rfl, by decide +kernel, rfl, by decide +kernel, by decide +kernel⟩
theorem ok_draw {f : Addr} {fd : FuncData} (F : Fun K "_law_draw" "_law_draw" sDraw f fd) (T : TxtD K mg) : FnOk P w K mg base CX0 1 f fd ["_law_well_here", "_law_many"] spDraw := by
  refine F.ok scDraw (fun vs H Q E h => ?_) (fun cdv A outer s H vs Q E hr h => ?_)
  · obtain ⟨a, m, n, rfl, _⟩ := h
    rfl
  · obtain ⟨a, m, n, rfl, ⟨w0, w1, w2, ha, h1, h2, h3, h4⟩, hn, hm, hm2, k⟩ := h
    have nd := scDraw.nd
    refine ⟨_, pss_cons (ps_if (pt_cmpR op_gt (pe_ix ix_list (pv 0) pe_int (fun _ _ => rfl)) pe_int (nomark _))
        (pss_cons (ps_set (i := 2) nd rfl (Or.inl rfl) (pe_op op_mod (pe_callTy call_int1 (by rfl) T.int (by decide +kernel) (pa_cons (pe_ix ix_list (pv 0) pe_int (fun _ _ => rfl)) pa_nil)) (pv 1)))
        (pss_cons (ps_asg (pe_op op_fdiv (pe_ix ix_list (pv 0) pe_int (fun _ _ => rfl)) (pv 1)) (pg_sub (pv 0) pe_int set_list))
        (pss_one (ps_ret (pv 2))))) pss_nil)
      (pss_cons (ps_asg (pe_op op_add (pe_ix ix_list (pv 0) pe_int (fun _ _ => rfl)) pe_int) (pg_sub (pv 0) pe_int set_list))
      (pss_cons (ps_set (i := 3) nd rfl (Or.inl rfl) (pe_ix ix_list (pe_lst (pa_cons pe_int (pa_cons pe_int (pa_cons pe_int (pa_cons pe_int (pa_cons pe_int (pa_cons pe_int (pa_cons pe_int pa_nil))))))))
          (pe_op op_mod (pe_callTy call_int1 (by rfl) T.int (by decide +kernel) (pa_cons (pe_ix ix_list (pv 0) pe_int (fun _ _ => rfl)) pa_nil)) pe_int) (fun _ _ => rfl)))
      (pss_cons (ps_set (i := 4) nd rfl (Or.inl rfl) (pe_op op_mod (pe_callTy call_int1 (by rfl) T.int (by decide +kernel) (pa_cons (pe_op op_pow (pe_op op_add (pe_op op_add (pe_ix ix_list (pv 0) pe_int (fun _ _ => rfl)) (pe_op op_mul pe_int (pe_ix ix_list (pv 0) pe_int (fun _ _ => rfl)))) pe_int) pe_int) pa_nil)) (pv 3)))
      (pss_cons (ps_set (i := 4) nd rfl (Or.inl rfl) (pe_op op_mod (pe_callTy call_int1 (by rfl) T.int (by decide +kernel) (pa_cons (pe_op op_mul (pe_op op_add (pv 4) (pe_ix ix_list (pv 0) pe_int (fun _ _ => rfl))) (pe_op op_add (pe_op op_fdiv (pv 4) pe_int) pe_int)) pa_nil)) (pv 3)))
      (pss_one (ps_ret (pe_op op_mod (pe_callTy call_int1 (by rfl) T.int (by decide +kernel) (pa_cons (pe_op op_fdiv (pv 4) pe_int) pa_nil)) (pv 1)))))))), ?_⟩
    refine ⟨_, rfl, a, _, 0, _, rfl, rfl, .of ha, rfl, _, _, rfl, rfl, _, rfl, ?_⟩
    refine ite2 (fun h0 => ?_) (fun h0 => ?_)
    · refine ⟨_, rfl, a, _, 0, _, rfl, rfl, .of ha, rfl, .inl ⟨_, rfl, _, rfl, _, _, rfl, rfl, hm, ?_⟩⟩
      refine ⟨_, rfl, a, _, 0, _, rfl, rfl, .of ha, rfl, _, rfl, _, _, rfl, rfl, ⟨hm, hm2⟩, _, rfl, a, _, 0, 0, rfl, rfl, ha, rfl, _, rfl, ?_⟩
      refine k _ _ (Int.emod_nonneg _ (by omega)) (Int.emod_lt_of_pos _ hm) ⟨_, _, _, upd_same, h1, h2, h3, by omega⟩ fun b o e n => ?_
      rw [upd_ne n]
      exact e
    · refine ⟨_, rfl, a, _, 2, _, rfl, rfl, .of ha, rfl, _, _, rfl, rfl, _, rfl, a, _, 2, 2, rfl, rfl, ha, rfl, ?_⟩
      have ha2 : ∀ {p : Addr} {H' : Hp}, H' = upd H a (.lst ([V.int w0, V.int w1, V.int w2].set 2 (V.int (w2 + 1)))) → H' a = some (.lst [.int w0, .int w1, .int (w2 + 1)]) := fun e => by rw [e]; exact upd_same
      refine ⟨by show 7 ≤ sizeLine; decide, fun p hp => ?_⟩
      have hpa : a ≠ p := ne_of_none (ha2 (p := p) rfl) hp
      have ha3 : (upd (upd H a (.lst ([V.int w0, V.int w1, V.int w2].set 2 (V.int (w2 + 1))))) p (.lst [V.int 2147483647, V.int 2147483629, V.int 2147483587, V.int 2147483579, V.int 2147483563, V.int 2147483549, V.int 2147483543])) a = some (.lst [.int w0, .int w1, .int (w2 + 1)]) := by
        rw [upd_ne hpa]
        exact ha2 (p := p) rfl
      obtain ⟨q, hq, q0, q1⟩ := well_at ((w2 + 1) % 7) (Int.emod_nonneg _ (by decide)) (Int.emod_lt_of_pos _ (by decide))
      refine ⟨_, rfl, a, _, 2, _, rfl, rfl, .of ha3, rfl, .inl ⟨_, rfl, _, _, rfl, rfl, (by show (0 : Int) < 7; decide), p, _, _, _, rfl, rfl, .of upd_same, hq, ?_⟩⟩
      refine ⟨_, rfl, a, _, 1, _, rfl, rfl, .of ha3, rfl, _, rfl, a, _, 2, _, rfl, rfl, .of ha3, rfl, _, _, rfl, rfl, .inl ⟨by decide, by decide⟩, _, _, rfl, rfl, _, _, rfl, rfl, _, _, rfl, rfl, ⟨by decide, by decide, by omega⟩, .inl ⟨_, rfl, _, rfl, _, _, rfl, rfl, q0, ?_⟩⟩
      have g0 := Int.emod_nonneg ((w1 + 7919 * (w2 + 1) + 1) ^ (5 : Int).toNat) (show q ≠ 0 by omega)
      have g1 := Int.emod_lt_of_pos ((w1 + 7919 * (w2 + 1) + 1) ^ (5 : Int).toNat) q0
      refine ⟨_, rfl, _, rfl, a, _, 2, _, rfl, rfl, .of ha3, rfl, _, _, rfl, rfl, _, rfl, _, _, rfl, rfl, ⟨by decide, by decide⟩, _, _, rfl, rfl, _, _, rfl, rfl, .inl ⟨by omega, by omega⟩, .inl ⟨_, rfl, _, rfl, _, _, rfl, rfl, q0, ?_⟩⟩
      refine ⟨_, rfl, _, _, rfl, rfl, ⟨by decide, by decide⟩, .inl ⟨_, rfl, _, rfl, _, _, rfl, rfl, hm, ?_⟩⟩
      refine k _ _ (Int.emod_nonneg _ (by omega)) (Int.emod_lt_of_pos _ hm) ⟨_, _, _, ha3, h1, h2, by omega, by omega⟩ fun b o e n => ?_
      rw [upd_ne (fun z => ?_), upd_ne n]
      · exact e
      · rw [← z, upd_ne n, e] at hp
        cases hp
/-- one of a list of things -/
def spOne : Sp := fun vs H Q _ => ∃ (a l : Addr) (n : Int) (xs : List V), vs = [.ref a, .ref l] ∧ WellAt H a n ∧ n ≤ 1000000 ∧ H l = some (.lst xs) ∧ l ≠ a ∧ 0 < xs.length ∧ xs.length ≤ 1000 ∧ ∀ (x : V) H', x ∈ xs → WellAt H' a (n + 1) → KeepB a H H' → Q x H'
theorem scOne : FnScope ["_law_well_here", "_law_some"] ["_law_well_here", "_law_some"] (defScope sOne) := ⟨rfl, rfl, rfl, by decide +kernel, rfl, by decide +kernel, by decide +kernel⟩
theorem ok_one {f fD : Addr} {fd fdD : FuncData} (F : Fun K "_law_one" "_law_one" sOne f fd) (T : TxtD K mg) (FD : Fun K "_law_draw" "_law_draw" sDraw fD fdD) (gD : mg "_law_draw" = some (.ref fD)) (bD : Binds K fdD ["_law_well_here", "_law_many"] []) :
    FnOk P w K mg base CX0 2 f fd ["_law_well_here", "_law_some"] spOne := by
  have GD : FnOk P w K mg base CX0 1 fD fdD ["_law_well_here", "_law_many"] spDraw := ok_draw FD T
  refine F.ok scOne (fun vs H Q E h => ?_) (fun cdv A outer s H vs Q E hr h => ?_)
  · obtain ⟨a, l, n, xs, rfl, _⟩ := h
    rfl
  · obtain ⟨a, l, n, xs, rfl, hw, hn, hl, hla, h1, h2, k⟩ := h
    refine ⟨_, pss_one (ps_ret (pe_ix ix_list (pv 1) (pe_call GD hr rfl gD FD.kp bD .nil pass0 (pa_cons (pv 0) (pa_cons (pe_callB call_len_seq (by rfl) T.len PySem.boot_len (pa_cons (pv 1) pa_nil)) pa_nil))) (fun _ _ => rfl))), ?_⟩
    refine ⟨_, rfl, _, rfl, _, rfl, l, xs, rfl, .inl (.of hl), a, _, n, rfl, hw, hn, by omega, by omega, fun d H' hd hd2 hw' hk => ?_⟩
    obtain ⟨j, rfl⟩ : ∃ j : Nat, d = (j : Int) := ⟨d.toNat, by omega⟩
    have hj : j < xs.length := by omega
    refine ⟨l, xs, _, xs[j], rfl, rfl, .of (hk l _ hl hla), atI_nat (List.getElem?_eq_getElem hj), ?_⟩
    exact k _ _ (List.getElem_mem hj) hw' hk
end
end T12

set_option Elab.async false
set_option linter.all false
set_option maxRecDepth 100000
set_option maxHeartbeats 4000000
namespace L2
open PySem EK
theorem alloc {H : Hp} {p : Addr} {o : HO} (hp : H p = none) : ∃ H1, upd H p o = H1 ∧ Same H H1 ∧ H1 p = some o :=
  ⟨_, rfl, fun b u e => by rw [upd_ne (ne_of_none e hp)]; exact e, upd_same⟩
/-- an error of the class at C stands at a, its one value v -/
def ErrAt (H : Hp) (a d C : Addr) (f : Str) (v : V) : Prop := H a = some (exo a C (some d)) ∧ H d = some (exd d [(f, v)])
theorem ErrAt.keep {H H' : Hp} {a d C : Addr} {f : Str} {v : V} (e : ErrAt H a d C f v) (s : Same H H') : ErrAt H' a d C f v := ⟨s _ _ e.1, s _ _ e.2⟩
theorem alloc_err {H : Hp} {a d C : Addr} {f : Str} {v : V} (ha : H a = none) (hd : H d = none) (hne : d ≠ a) : ∃ H1, upd (upd H d (exd d [(f, v)])) a (exo a C (some d)) = H1 ∧ Same H H1 ∧ ErrAt H1 a d C f v :=
  ⟨_, rfl, fun b u e => by rw [upd_ne (ne_of_none e ha), upd_ne (ne_of_none e hd)]; exact e, upd_same, by rw [upd_ne hne, upd_same]⟩
theorem look1 (f : Str) (v : V) : List.lookup f [(f, v)] = some v := by rw [lookup_put, if_pos rfl]
theorem _root_.EK.ErrTxt.xf {P : Program} {K : PySem.W.Frag} {mg : Str → Option Value} {x f : Str} {C fI : Addr} (T : ErrTxt P K mg x f C fI) : XfC K C := ⟨T.ga, T.gg, T.exC, T.hdC⟩
end L2

set_option Elab.async false
set_option linter.all false
set_option maxRecDepth 100000
set_option maxHeartbeats 4000000
/-! RaiseKit: an error raised; several clauses, with and without names; what a lambda handed over says. -/
namespace L2
open PySem PySem.Spec PyProof.Rows EK
section
variable {X : Cx} {C fI : Addr} {x f : Str}
/-- x(e), made to be raised: its own dict, new, holds the value -/
def tErrMk (C : Addr) (f : Str) (ta : TA) : St → Hp → XK → Prop := fun σ H Q => ta σ H fun vs H1 => ∃ v, vs = [v] ∧ ∀ d, H1 d = none → Q (.ref C) (some d) (upd H1 d (.xd [(f, v)]))
theorem pmk_err {a : Expr} {ta : TA} {p pos : Pos} {k : Nat} (T : ErrTxt X.prog X.K X.mg x f C fI) (hr : Room k X.A) (ha : PA X [a] ta) (hg : Gl X x) (hd : (x == ("__debug__" : Str)) = false := by decide)
    (he : starEach (a :: []) X.env = (false, eval a X.env) :: starEach [] X.env := by rfl) (hpl : (backTo pos (starEach [] X.env)).any (·.1) = false := by rfl) :
    PMk X (.Call (.Name x p) [a] [] pos) (tErrMk C f ta) := by
  intro pins s σ H Q I h
  refine wpAny_Call_Name_kw (ld_glob I hg T.gC ?_ hd)
  refine PySem.W.callWith_K (h₀ := X.base) I.ok.mod.kin T.kC (thn (ha.run pos pins s σ H _ I h) fun us s1 hh => ?_) he hpl
  obtain ⟨vs, H1, I1, r1, v, ev, q1⟩ := hh
  subst ev
  refine ⟨I1.kIn, ?_⟩
  cases r1 with
  | cons rv rn =>
    rename_i v' us'
    cases rn
    show wpAny _ _ (call (.ref C) [v']) _ _ _
    have hlim := I1.nolimit
    obtain ⟨hp, g, dr, tk, os⟩ := s1
    obtain ⟨mb, hb1, hb2⟩ := I1.mod.blt
    refine wpAny_call (err_made T I1.kIn hlim (I1.mod.glob.keeps I1.bk) ⟨mb, hb1.keeps I1.bk, hb2⟩ (by have := hr.dp; omega) fun h' tk' e d M => ?_)
    show MkP X pins σ Q (.ref e) ⟨h', g, dr, tk', os⟩
    obtain ⟨t1, hoe⟩ := M.obj
    obtain ⟨G, g1, g2⟩ := restrict h' fun b => decide (b ≠ e)
    have gk : ∀ b, b ≠ e → G.get? b = h'.get? b := fun b hb => g1 b (decide_eq_true hb)
    have ge : G.get? e = none := g2 e (by simp)
    have gs : ∀ b o, G.get? b = some o → h'.get? b = some o := fun b o q => by
      by_cases hbe : b = e
      · rw [hbe, ge] at q
        cases q
      · exact (gk b hbe).symm.trans q
    have old : ∀ b o, hp.get? b = some o → G.get? b = some o := fun b o q => (gk b (Nat.ne_of_lt (Nat.lt_of_lt_of_le (Heap.lt_size q) M.new))).trans (M.keep b o q)
    have ob : ObjOk X.prog X.w (upd H1 d (.xd [(f, v)])) G d (.xd [(f, v)]) := ⟨_, M.ns.at (fun o q => (gk d M.dne).trans q), relO_one rv⟩
    have J : Inv X pins σ (upd H1 d (.xd [(f, v)])) ⟨G, g, dr, tk', os⟩ := I1.laid (t' := tk') old M.dbig ob
    have ne : (upd H1 d (.xd [(f, v)])) e = none := by
      rw [upd_ne (Ne.symm M.dne)]
      exact I1.hok.fresh M.new
    exact ⟨e, _, _, ⟨G, g, dr, tk', os⟩, _, .ref C, some d, rfl, J, gs, ge, hoe, ⟨rfl, rfl⟩, rfl, rfl, ne, rfl, I1.bare, raises_own T.exC T.tyC, q1 d (I1.hok.fresh M.dbig)⟩
theorem ps_raiseErr {a : Expr} {ta : TA} {W : WX} {p pos pos2 : Pos} {k : Nat} (hc : X.calm = true) (T : ErrTxt X.prog X.K X.mg x f C fI) (hr : Room k X.A) (tk : Takes X W) (ha : PA X [a] ta) (hg : Gl X x) (hd : (x == ("__debug__" : Str)) = false := by decide)
    (he : starEach (a :: []) X.env = (false, eval a X.env) :: starEach [] X.env := by rfl) (hpl : (backTo pos (starEach [] X.env)).any (·.1) = false := by rfl) :
    PS X (.Raise (some (.Call (.Name x p) [a] [] pos)) none pos2) (fun _ σ H => tErrMk C f ta σ H fun cls d H' => W cls d σ H') := ps_raise hc tk (pmk_err T hr ha hg hd he hpl)
end
/-! ### try with several clauses -/
structure Cl where
  c : Value
  i : Option Nat
  ts : Addr → Value → Option Addr → TS
def Ends.drop (D : Ends) (i : Nat) : Ends := { nx := fun s h => D.nx (s.set i none) h, rt := D.rt, bk := fun s h => D.bk (s.set i none) h, ct := fun s h => D.ct (s.set i none) h }
def Cl.run (k : Cl) (a : Addr) (cls : Value) (d : Option Addr) : TS := fun D σ H => match k.i with
  | none => k.ts a cls d D σ H
  | some i => i < σ.length → k.ts a cls d (D.drop i) (σ.set i (some (.ref a))) H
def wCl (K : PySem.W.Frag) (Wout : WX) (D : Ends) : List Cl → WX
  | [] => Wout
  | k :: r => fun cls d σ H => ∃ b, PySem.W.exmOne K cls k.c = some b ∧ (b = true → ∀ a, H a = none → k.run a cls d D σ H) ∧ (b = false → wCl K Wout D r cls d σ H)
inductive ClOk (X : Cx) : List ExceptHandler → List Cl → Prop
  | nil : ClOk X [] []
  | un {x : Str} {c : Value} {ts : Addr → Value → Option Addr → TS} {b1 : Stmt} {suite : List Stmt} {np pos' : Pos} {hds : List ExceptHandler} {l : List Cl} (hc : Names X x c)
      (hsu : ∀ (a : Addr) (oe : Obj) (cls : Value) (d : Option Addr) (pn : List (Addr × Obj)), Zc cls d oe → (∃ vs, oe.data = .fields vs) → PSs (X.suite a ((a, oe) :: pn)) (b1 :: suite) (ts a cls d)) (r : ClOk X hds l) :
      ClOk X (.ExceptHandler (some (.Name x np)) none (b1 :: suite) pos' :: hds) (⟨c, none, ts⟩ :: l)
  | as {x n : Str} {i : Nat} {c : Value} {ts : Addr → Value → Option Addr → TS} {b1 : Stmt} {suite : List Stmt} {np pos' : Pos} {hds : List ExceptHandler} {l : List Cl} (hi : X.N[i]? = some n) (hln : X.env.kindOf n = some .local) (hc : Names X x c)
      (hsu : ∀ (a : Addr) (oe : Obj) (cls : Value) (d : Option Addr) (pn : List (Addr × Obj)), Zc cls d oe → (∃ vs, oe.data = .fields vs) → PSs (X.suite a ((a, oe) :: pn)) (b1 :: suite) (ts a cls d)) (r : ClOk X hds l) :
      ClOk X (.ExceptHandler (some (.Name x np)) (some n) (b1 :: suite) pos' :: hds) (⟨c, some i, ts⟩ :: l)
section
variable {X : Cx} {body : List Stmt} {hd0 : ExceptHandler} {hds : List ExceptHandler} {l : List Cl} {pos : Pos} {tb : WX → TS} {Wout : WX} {pins : List (Addr × Obj)} {s : Shared} {D : Ends}
/-- behind a suite: its end, the name gone -/
theorem sp_unsuite {a : Addr} {q : Addr × Obj} {f : Flow} (ok : X.Ok) (h : SP (X.suite a (q :: (X.pn ++ pins))) [] D f s) : SP X pins D f s := by
  cases f with
  | next =>
    obtain ⟨t, h1, J, z⟩ := h
    exact ⟨t, h1, J.unsuite ok, z⟩
  | brk =>
    obtain ⟨t, h1, J, z⟩ := h
    exact ⟨t, h1, J.unsuite ok, z⟩
  | cont =>
    obtain ⟨t, h1, J, z⟩ := h
    exact ⟨t, h1, J.unsuite ok, z⟩
  | ret u =>
    obtain ⟨v, t, h1, J, r, z⟩ := h
    exact ⟨v, t, h1, J.unsuite ok, r, z⟩
theorem sp_gone {n : Str} {i : Nat} {f : Flow} {pos' : Pos} (hN : X.N.Nodup) (hi : X.N[i]? = some n) (hln : X.env.kindOf n = some .local) (h : SP X pins (D.drop i) f s) :
    wpAny (model X.prog X.w) X.A (do bindName X.env n .none; unbindBehindTheSuite X.env n pos') (fun _ s7 => SP X pins D f s7) X.xe s := by
  cases f with
  | next =>
    obtain ⟨t, h1, J, z⟩ := h
    exact gone_ok J hN hi hln fun s7 J7 => ⟨_, _, J7, z⟩
  | brk =>
    obtain ⟨t, h1, J, z⟩ := h
    exact gone_ok J hN hi hln fun s7 J7 => ⟨_, _, J7, z⟩
  | cont =>
    obtain ⟨t, h1, J, z⟩ := h
    exact gone_ok J hN hi hln fun s7 J7 => ⟨_, _, J7, z⟩
  | ret u =>
    obtain ⟨v, t, h1, J, r, z⟩ := h
    exact gone_ok J hN hi hln fun s7 J7 => ⟨_, _, _, J7, r, z⟩
theorem names_ld {a : Addr} {oe : Obj} {pn : List (Addr × Obj)} {σ : St} {H : Hp} {x : Str} {c : Value} {np : Pos} (S : Inv (X.suite a ((a, oe) :: pn)) [] σ H s) (hc : Names X x c) {Q : Value → Shared → Prop} {E : Value → Shared → Prop} (q : Q c s) :
    wpAny (model X.prog X.w) (X.A.mark (some (.ref a))) (eval (.Name x np) X.env) Q E s := by
  obtain ⟨h1, h2, h3⟩ := hc
  rcases h3 with h3 | ⟨h3, h4, h5⟩
  · exact ld_glob (X := X.suite a ((a, oe) :: pn)) S h1 h3 q h2
  · exact ld_blt (X := X.suite a ((a, oe) :: pn)) S h1 h3 h4 q h5 h2
theorem ps_tryC (hs : X.stack = X.env :: X.outer) (hf : X.env.frame = some X.env.locals) (hN : X.N.Nodup) (tk : Takes X Wout)
    (hb : ∀ (W : WX) (pn : List (Addr × Obj)) (xe : Value → Shared → Prop), Takes (X.tr pn xe) W → PassesOwn (model X.prog X.w) X.A X.env xe → PSs (X.tr pn xe) body (tb W))
    (hh : ClOk X (hd0 :: hds) l) : PS X (.Try body (hd0 :: hds) [] [] pos) (fun D σ H => tb (wCl X.K Wout D l) D σ H) := by
  refine ⟨fun pins s σ H D I h => ?_⟩
  have ok := I.ok
  have hfr : X.A.frames = some (X.env :: X.outer) := ok.frames.trans (congrArg some hs)
  refine wpAny_Try_except (wpAny_mono ((hb (wCl X.K Wout D l) (X.pn ++ pins) _ (fun u s' xx => ?_) PassesOwn.looking).run [] s σ H D (I.toTry _) h) (fun fl s1 hsp => ?_) fun e s1 he => he)
  · -- an exception has come
    obtain ⟨a, B, sI, pins', σ', H', cls, d, rfl, J0, nb, up, sky, na, os, ag, w⟩ := xx
    have J : Inv X pins σ' H' sI := J0.ofTry ok
    rw [hs] at sky
    show wpAny (model X.prog X.w) X.A (noteFrame (.ref a) X.env) _ _ _
    refine Sky.land Zc.steady hfr hf sky fun h3 fl3 up3 => ?_
    have J3 : Inv X pins σ' H' { s' with heap := h3 } := J.landed nb fl3.1 (up.trans up3) os ag
    obtain ⟨oe3, vs3, he3, hz3, hd3⟩ := fl3.there
    have ff := fl3.2.2.1
    have away : ∀ b ∈ frs (X.env :: X.outer), a ≠ b := fun b hm z => by
      obtain ⟨_, o', e', hnf⟩ := ff.mem hm
      rw [← z, he3] at e'
      cases e'
      exact hnf _ hd3
    have nL : a ≠ X.env.locals := away _ (List.mem_filterMap.mpr ⟨X.env, List.mem_cons_self, hf⟩)
    have nF : a ∉ X.fs := fun hm => by
      obtain ⟨e, he, q⟩ := List.mem_filterMap.mp hm
      exact away a (List.mem_filterMap.mpr ⟨e, List.mem_cons_of_mem _ he, q⟩) rfl
    have S3 := J3.suite he3 hd3 na nL nF
    have LT : PySem.W.Looks (model X.prog X.w) h3 (typeOf (.ref a)) cls := fun A Q E s k q => wpAny_typeOf_ref (k _ _ he3) (by rw [hz3.1]; exact q)
    have test : ∀ {x : Str} {c : Value} {np : Pos}, Names X x c → ∀ {Q : Value → Shared → Prop} {E : Value → Shared → Prop}, Q c { s' with heap := h3 } → wpAny (model X.prog X.w) (X.A.mark (some (.ref a))) (eval (.Name x np) X.env) Q E { s' with heap := h3 } := fun hc => names_ld S3 hc
    have go : ∀ {hs2 : List ExceptHandler} {l2 : List Cl}, ClOk X hs2 l2 → wCl X.K Wout D l2 cls d σ' H' →
        wpAny (model X.prog X.w) X.A (handleBy (.ref a) X.env hs2) (SP X pins D) X.xe { s' with heap := h3 } := by
      intro hs2 l2 hk
      induction hk with
      | nil =>
        intro w
        refine wpAny_handleBy_nil ?_
        obtain ⟨_, _, _, oe, vs, T, oT, ts', he, hz, hd, h1, hr⟩ := id fl3
        unfold PySem.passOn
        refine wpAny_bind (wpAny_field he hd h1 ?_)
        rw [if_neg (show ¬ ((Value.ref T == Value.none) = true) from by simp)]
        have fin : wpAny (model X.prog X.w) X.A (setFlight (.ref a) X.env.frame) (fun _ s4 => wpAny (model X.prog X.w) X.A (throw (.ref a) : Sem Flow) (SP X pins D) X.xe s4) X.xe { s' with heap := h3 } := by
          rw [hf]
          exact HandSPX.setFlight_upZ fl3 fun h4 hh4 up4 => wpAny_throw (tk _ _ ⟨a, B, sI, pins, σ', H', cls, d, rfl, J, nb, (up.trans up3).trans up4, .inr (.inr (by rw [hs]; exact hh4)), na, os, ag, w⟩)
        first
          | exact wpAny_bind (wpAny_pure (wpAny_bind fin))
          | exact wpAny_bind fin
      | @un x c ts b1 suite np pos' hds2 l2 hc hsu r ih =>
        intro ⟨b, hb1, hyes, hno⟩
        refine wpAny_handleBy_cons (codeAny_handlers_test (test hc ((PySem.W.exm_one (M := model X.prog X.w) J3.kIn LT hb1).here ?_))) (by intro q; cases q)
        cases b with
        | false => exact ih (hno rfl)
        | true =>
          refine codeAny_handlers_suite (HandSPX.lands_againZ fl3 fun h4 fl4 up4 => ?_)
          have J4 : Inv X pins σ' H' { s' with heap := h4 } := J.landed nb fl4.1 ((up.trans up3).trans up4) os ag
          obtain ⟨oe4, vs4, he4, hz4, hd4⟩ := fl4.there
          exact wpAny_mono ((hsu a oe4 cls d (X.pn ++ pins) hz4 ⟨_, hd4⟩).run [] _ _ H' _ (J4.suite he4 hd4 na nL nF) (hyes rfl a na)) (fun f s6 hsp => sp_unsuite ok hsp) (fun _ _ z => False.elim z)
      | @as x n i c ts b1 suite np pos' hds2 l2 hi hln hc hsu r ih =>
        intro ⟨b, hb1, hyes, hno⟩
        refine wpAny_handleBy_cons (codeAny_handlers_test (test hc ((PySem.W.exm_one (M := model X.prog X.w) J3.kIn LT hb1).here ?_))) (by intro q; cases q)
        cases b with
        | false => exact ih (hno rfl)
        | true =>
          refine codeAny_handlers_suite_as (HandSPX.lands_againZ fl3 fun h4 fl4 up4 => ?_)
          have J4 : Inv X pins σ' H' { s' with heap := h4 } := J.landed nb fl4.1 ((up.trans up3).trans up4) os ag
          obtain ⟨oe4, vs4, he4, hz4, hd4⟩ := fl4.there
          refine store_ok (X := X.suite a ((a, oe4) :: (X.pn ++ pins))) (v := .ref a) (J4.suite he4 hd4 na nL nF) hN hi (.inl hln) rfl (fun s5 S5 => ?_) (.inr hln)
          have hil : i < σ'.length := by rw [J.len]; exact (List.getElem?_eq_some_iff.mp hi).1
          exact wpAny_mono ((hsu a oe4 cls d (X.pn ++ pins) hz4 ⟨_, hd4⟩).run [] s5 _ H' _ S5 (hyes rfl a na hil)) (fun f s6 hsp => sp_gone hN hi hln (sp_unsuite ok hsp)) (fun _ _ z => False.elim z)
    exact go hh w
  · cases fl with
    | next =>
      obtain ⟨t, h1, J', q⟩ := hsp
      exact wpAny_execs_nil ⟨t, h1, J'.ofTry ok, q⟩
    | brk =>
      obtain ⟨t, h1, J', q⟩ := hsp
      exact ⟨t, h1, J'.ofTry ok, q⟩
    | cont =>
      obtain ⟨t, h1, J', q⟩ := hsp
      exact ⟨t, h1, J'.ofTry ok, q⟩
    | ret u =>
      obtain ⟨v, t, h1, J', r, q⟩ := hsp
      exact ⟨v, t, h1, J'.ofTry ok, r, q⟩
end
end L2

set_option Elab.async false
set_option linter.all false
set_option maxRecDepth 100000
set_option maxHeartbeats 4000000
/-! SaidKit: what a lambda handed over tells, or which of two errors it raises, as a pair. -/
namespace L2
open PySem PySem.Spec PyProof.Rows EK LamX
/-- an error of cls with its dict d: of the class at C, its one value told as (m, value) -/
def errTold (C : Addr) (f m : Str) (Q : VK) : XK := fun cls d H => cls = .ref C ∧ ∃ (dd : Addr) (v : V), d = some dd ∧ H dd = some (.xd [(f, v)]) ∧ ∀ p, H p = none → Q (.ref p) (upd H p (.tup [.str m, v]))
def wSaid (K : PySem.W.Frag) (C1 C2 : Addr) (f1 f2 m1 m2 : Str) (Q : VK) : XK := fun cls d H => ∃ b1, PySem.W.exmOne K cls (.ref C1) = some b1 ∧ (b1 = true → errTold C1 f1 m1 Q cls d H) ∧
  (b1 = false → ∃ b2, PySem.W.exmOne K cls (.ref C2) = some b2 ∧ (b2 = true → errTold C2 f2 m2 Q cls d H) ∧ (b2 = false → False))
def TSaid (K : PySem.W.Frag) (C1 C2 : Addr) (f1 f2 m1 m2 : Str) : (XK → Hp → VK → Prop) → Hp → VK → Prop := fun tl H Q =>
  tl (wSaid K C1 C2 f1 f2 m1 m2 Q) H fun v H1 => [V.str "told", v].length ≤ sizeLine ∧ ∀ p, H1 p = none → Q (.ref p) (upd H1 p (.tup [.str "told", v]))
theorem said_gives {X : Cx} {Ng : List Str} {x a e1 e2 n1 n2 q f1 f2 m1 m2 : Str} {sg : Scope} {g C1 C2 : Addr} {cdg : Value} {j0 j1 j2 : Nat} {p1 p2 p3 p4 p5 p6 p7 p8 a1 a2 a3 a4 a5 a6 a7 b1 b2 b3 b4 b5 b6 b7 c1 c2 : Pos} {k0 k1 k2 : Nat} {mz : Value}
    (hN : Ng.Nodup) (hn1 : Ng[1]? = some n1) (hl1 : sg.names.lookup n1 = some .local) (hn2 : Ng[1]? = some n2)
    (ge1 : sg.names.lookup e1 = some .globalImplicit) (hm1 : X.mg e1 = some (.ref C1)) (de1 : (e1 == ("__debug__" : Str)) = false)
    (ge2 : sg.names.lookup e2 = some .globalImplicit) (hm2 : X.mg e2 = some (.ref C2)) (de2 : (e2 == ("__debug__" : Str)) = false)
    (T1 : XfC X.K C1) (T2 : XfC X.K C2) (no1 : PySem.W.findIn X.K (.ref C1) f1 = some none) (no2 : PySem.W.findIn X.K (.ref C2) f2 = some none) (dn : (n1 == ("__debug__" : Str)) = false) (cn : (n1 == ("__classdict__" : Str)) = false) (sk : sg.kind = .function)
    (h0 : ∀ f : Addr, (L2.start Ng [V.ref f])[0]? = some (some (V.ref f))) (hz1 : ∀ f : Addr, (L2.start Ng [V.ref f])[1]? = some none) :
    GivesTo X Ng x sg g cdg [.Try [.Return (some (.Tuple [.Constant (.str "told") j0 p1, .Call (.Name a p2) [] [] p3] k0 p4)) p5]
      [.ExceptHandler (some (.Name e1 a1)) (some n1) [.Return (some (.Tuple [.Constant (.str m1) j1 a2, .Attribute (.Name n1 a3) f1 a4] k1 a5)) a6] a7,
       .ExceptHandler (some (.Name e2 b1)) (some n2) [.Return (some (.Tuple [.Constant (.str m2) j2 b2, .Attribute (.Name n2 b3) f2 b4] k2 b5)) b6] b7] [] [] p8] a q (TSaid X.K C1 C2 f1 f2 m1 m2) := by
  obtain rfl : n1 = n2 := Option.some.inj (hn1.symm.trans hn2)
  intro f c' s H Q tl act hc h
  have hlen : 1 < (L2.start Ng [V.ref f]).length := by
    have z := hz1 f
    exact (List.getElem?_eq_some_iff.mp z).1
  have gl1 : Gl (cxOf C8.CX0 X.prog X.w X.K X.mg X.base Ng x sg g cdg X.A X.stack s H C8.E0).nox e1 := ge1
  have gl2 : Gl (cxOf C8.CX0 X.prog X.w X.K X.mg X.base Ng x sg g cdg X.A X.stack s H C8.E0).nox e2 := ge2
  refine ⟨_, pss_one (ps_tryC (X := (cxOf C8.CX0 X.prog X.w X.K X.mg X.base Ng x sg g cdg X.A X.stack s H C8.E0).nox)
      (tb := fun W D σ H => ∃ Ech : XK, (∀ cls d σ' H', Ech cls d H' → W cls d σ' H') ∧ σ[0]? = some (some (.ref f)) ∧ H c' = some (CodeO c' q) ∧ tl Ech H (fun v H1 => [V.str "told", v].length ≤ sizeLine ∧ ∀ p, H1 p = none → D.rt (.ref p) (upd H1 p (.tup [.str "told", v]))))
      (l := [⟨.ref C1, some 1, fun a cls d => tRet (tTup (tCons (tC (.str m1)) (tCons (tXf a cls d C1 f1 (tVar 1)) tNil)))⟩, ⟨.ref C2, some 1, fun a cls d => tRet (tTup (tCons (tC (.str m2)) (tCons (tXf a cls d C2 f2 (tVar 1)) tNil)))⟩])
      rfl rfl hN takes0 (fun W pn xe tk _ => ?_)
      (ClOk.as hn1 (by show Env.kindOf _ n1 = some NameKind.local; exact hl1) ⟨gl1, de1, .inl hm1⟩ (fun a oe cls d pn hz hf => pss_one (ps_ret (pe_tup (pa_cons pe_str (pa_cons (pe_xf T1 no1 hz hf (pe_var (i := 1) hn1 (Or.inl hl1) dn cn)) pa_nil)))))
        (ClOk.as hn1 (by show Env.kindOf _ n1 = some NameKind.local; exact hl1) ⟨gl2, de2, .inl hm2⟩ (fun a oe cls d pn hz hf => pss_one (ps_ret (pe_tup (pa_cons pe_str (pa_cons (pe_xf T2 no2 hz hf (pe_var (i := 1) hn1 (Or.inl hl1) dn cn)) pa_nil))))) .nil))), ?_⟩
  · refine ⟨fun pins s' σ H' D I h' => ?_⟩
    obtain ⟨Ech, hW, h1, h2, h3⟩ := h'
    have hp := act W pn xe Ech p2 p3 tk hW
    have hq : PSs ((cxOf C8.CX0 X.prog X.w X.K X.mg X.base Ng x sg g cdg X.A X.stack s H C8.E0).tr pn xe) [.Return (some (.Tuple [.Constant (.str "told") j0 p1, .Call (.Name a p2) [] [] p3] k0 p4)) p5] _ := pss_one (ps_ret (pe_tup (pa_cons pe_str (pa_cons hp pa_nil))))
    exact hq.run pins s' σ H' D I ⟨h1, h2, h3⟩
  · have hset : ∀ (σ : L2.St) (y : V), 1 < σ.length → (σ.set 1 (some y))[1]? = some (some y) := fun σ y h => by rw [List.getElem?_set_self h]
    have two : ∀ x y : V, [x, y].length ≤ sizeLine := fun x y => by show 2 ≤ sizeLine; decide
    refine ⟨wSaid X.K C1 C2 f1 f2 m1 m2 Q, fun cls d σ' H' ⟨b1, e1, y1, z1⟩ => ⟨b1, e1, fun hb a ha hl => ?_, fun hb => ?_⟩, h0 f, hc, h⟩
    · obtain ⟨ec, dd, v, ed, hd, q⟩ := y1 hb
      exact ⟨_, hset _ _ hl, rfl, ec, dd, _, v, ed, hd, look1 _ _, two _ _, q⟩
    · obtain ⟨b2, e2, y2, z2⟩ := z1 hb
      refine ⟨b2, e2, fun hb2 a ha hl => ?_, fun hb2 => z2 hb2⟩
      obtain ⟨ec, dd, v, ed, hd, q⟩ := y2 hb2
      exact ⟨_, hset _ _ hl, rfl, ec, dd, _, v, ed, hd, look1 _ _, two _ _, q⟩
end L2

set_option Elab.async false
set_option linter.all false
set_option maxRecDepth 100000
set_option maxHeartbeats 4000000
/-! SayKit: isinstance of the error that a suite holds; a call of what a slot holds, one of several defs; a said: try: a() / except .. / return word. -/
namespace L2
open PySem PySem.Spec PyProof.Rows EK LamX
def rIsX (K : PySem.W.Frag) (a : Addr) (cls : Value) (d : Option Addr) : List V → Hp → VK → Prop := fun xs H Q => ∃ (C dd : Addr) (fs : List (Str × V)) (c : V) (u : Value) (b : Bool), xs = [.ref a, c] ∧ cls = .ref C ∧ d = some dd ∧ H dd = some (.xd fs) ∧ ExcC K C ∧ ClsV c u ∧ PySem.W.kitOne K (.ref C) u = some b ∧ Q (.bl b) H
theorem call_isX {X : Cx} {a : Addr} {oe : Obj} {cls : Value} {d : Option Addr} {pn : List (Addr × Obj)} (hz : Zc cls d oe) (hf : ∃ vs, oe.data = .fields vs) : CallR (X.suite a ((a, oe) :: pn)) (.builtin "isinstance") (rIsX X.K a cls d) := by
  intro pins s σ H xs us Q I r h
  obtain ⟨C, dd, fs, c, u, b, rfl, rfl, rfl, ed, T, k, e, q⟩ := h
  obtain ⟨u1, u2, rfl, r1, r2⟩ := vals2 r
  have e2 := k.eq r2
  subst e2
  cases r1
  obtain ⟨ha, _⟩ := I.pin (a, oe) (List.mem_append_left _ List.mem_cons_self)
  obtain ⟨vs, hd⟩ := hf
  have hcl : (PySem.W.clsIn X.K C).isSome = true := by
    obtain ⟨cd, hc, _⟩ := PySem.W.any_some T.hd
    rw [hc]
    rfl
  have hx : ObjOk X.prog X.w H s.heap dd (.xd fs) := I.hok dd _ ed
  obtain ⟨mA, ⟨od, es, ep, ho, hr⟩, _⟩ := hx
  have J : PySem.W.InstAt s.heap a oe C (some od) := ⟨ha, hz.1, by unfold PySem.W.notCls; rw [hd] <;> rfl, by rw [hz.2]; exact ho⟩
  exact PySem.W.kia_one (PySem.W.kitx_exc (od := some od) hcl T.hg T.hk T.hs T.ha T.hn T.ht T.hm) I.kIn J e (fun z => nomatch z) fun tk => ⟨.bl b, H, I.tok tk, rfl, q⟩
/-- x(..), x a slot that holds one of several defs of one promise -/
def tCallF (i : Nat) (fs : List Addr) (sp : Sp) (E : XK) (t : TA) : TE := fun σ H Q => ∃ f ∈ fs, σ[i]? = some (some (.ref f)) ∧ t σ H fun vs H1 => sp vs H1 Q E
section
variable {X : Cx} {CX : CXT} {k i : Nat} {sp : Sp} {E : XK} {x : Str} {p pos : Pos} {e : Expr} {es : List Expr} {t : TA}
theorem pe_callF {fs : List Addr} (F : ∀ f ∈ fs, ∃ (fd : FuncData) (ps : List Str), FnOk X.prog X.w X.K X.mg X.base CX k f fd ps sp ∧ PySem.W.keepIn X.K (.ref f) = true ∧ Binds X.K fd ps []) (hr : Room k X.A) (hN : X.N[i]? = some x) (hv : Vis X.env.scope x) (hx : Passes CX X E) (ha : PA X (e :: es) t)
    (hdb : (x == ("__debug__" : Str)) = false := by decide) (hcd : (x == ("__classdict__" : Str)) = false := by decide)
    (he : starEach (e :: es) X.env = (false, eval e X.env) :: starEach es X.env := by rfl) (hpl : (backTo pos (starEach es X.env)).any (·.1) = false := by rfl) : PE X (.Call (.Name x p) (e :: es) [] pos) (tCallF i fs sp E t) := by
  refine ⟨fun pins s σ H Q I h => ?_⟩
  obtain ⟨f, hf, hs, ht⟩ := h
  obtain ⟨fd, ps, G, hk, hb⟩ := F f hf
  refine (pe_callL (i := i) (f := f) (sp := sp) (dvs := []) (E := E) G hr hN hv hk hb .nil hx ha hdb hcd he hpl).run pins s σ H Q I ⟨hs, ?_⟩
  have e0 : (fun (vs : List V) (H1 : Hp) => sp (vs ++ []) H1 Q E) = fun vs H1 => sp vs H1 Q E := by
    funext vs H1
    rw [List.append_nil]
  show t σ H (fun vs H1 => sp (vs ++ []) H1 Q E)
  rw [e0]
  exact ht
end
theorem ite_yes {b : Bool} {P R : Prop} (h : b = true) (p : P) : if b = true then P else R := by rw [if_pos h]; exact p
/-- an error of the class at C, its one value told as [m, value] -/
def errL (C : Addr) (f m : Str) (Q : VK) : XK := fun cls d H => cls = .ref C ∧ ∃ (dd : Addr) (v : V), d = some dd ∧ H dd = some (.xd [(f, v)]) ∧ ∀ p, H p = none → Q (.ref p) (upd H p (.lst [.str m, v]))
/-- the clause: what it makes of the error it catches -/
def ClGives (X : Cx) (C : Addr) (suite : List Stmt) (R : VK → XK) : Prop := ∃ ts : Addr → Value → Option Addr → TS,
  (∀ (a : Addr) (oe : Obj) (cls : Value) (d : Option Addr) (pn : List (Addr × Obj)), Zc cls d oe → (∃ vs, oe.data = .fields vs) → PSs (X.suite a ((a, oe) :: pn)) suite (ts a cls d)) ∧
  ∀ (a : Addr) (cls : Value) (d : Option Addr) (D : Ends) (σ : St) (H : Hp), 2 < σ.length → H a = none → R D.rt cls d H → ts a cls d (D.drop 1) (σ.set 1 (some (.ref a))) H
end L2

set_option Elab.async false
set_option linter.all false
set_option maxRecDepth 100000
set_option maxHeartbeats 4000000
/-! ValKit: d.values(), sum and list of it; math.comb. -/
namespace L2
open PySem PySem.Spec PyProof.Rows
section
variable {X : Cx}
abbrev vwO (p d : Addr) : HO := viewO "dict_values" p d
def rVals : V → List V → Hp → VK → Prop := fun x xs H Q => ∃ (a : Addr) (kvs : List (Key × V)), x = .ref a ∧ xs = [] ∧ H a = some (.dK kvs) ∧ ∀ p, H p = none → Q (.ref p) (upd H p (vwO p a))
theorem mt_values : MtR X "dict.values" rVals := by
  intro pins s σ H x xs v us Q I rx rxs h
  obtain ⟨a, kvs, rfl, rfl, ha, q⟩ := h
  cases rx
  cases rxs
  obtain ⟨_, hsys, vs, rel, dof⟩ := dk_of I.hok ha
  refine call_meetsIn F.slot_dict_values dof.typeIs F.entry_dict_values (F.args_dict_values_1 _) (meets_dict_values (mixKind X.prog X.w) a hsys) ⟨⟨vs, dof⟩, ?_⟩
  exact ⟨.ref s.heap.objs.size, upd H s.heap.objs.size (vwO s.heap.objs.size a), I.laid (t' := s.toks) (fun b u e => Heap.get?_push_of_some _ e) (Nat.le_refl _) (viewO_ok (Heap.get?_push_size _ rfl)), rfl, q _ (I.hok.fresh (Nat.le_refl _))⟩
theorem preSum_ints (ns : List Int) : ∀ j, preSum (fun i => ns.getD i 0) j = (ns.take j).sum := by
  intro j
  induction j with
  | zero => simp [preSum]
  | succ j ih =>
    rw [preSum, ih]
    by_cases h : j < ns.length
    · rw [List.getD_eq_getElem?_getD, List.getElem?_eq_getElem h, List.take_succ_eq_append_getElem h, List.sum_append]
      simp only [Option.getD_some, List.sum_cons, List.sum_nil, Int.add_zero]
    · rw [List.take_of_length_le (by omega), List.take_of_length_le (by omega), List.getD_eq_getElem?_getD, List.getElem?_eq_none (by omega)]
      simp
def rSumV : List V → Hp → VK → Prop := fun xs H Q => ∃ (p a : Addr) (kvs : List (Key × V)) (ns : List Int), xs = [.ref p] ∧ H p = some (vwO p a) ∧ H a = some (.dK kvs) ∧ kvs.map (·.2) = ns.map V.int ∧ Q (.int ns.sum) H
theorem cr_sumV (hc : X.calm = true) : CallR X (.builtin "sum") rSumV := by
  intro pins s σ H xs us Q I r h
  obtain ⟨p, a, kvs, ns, rfl, hp, ha, hv, q⟩ := h
  rw [Vals.ref1 r]
  have vw : s.heap.get? p = some (DSub.viewOb "dict_values" a) := (show ObjOk X.prog X.w H s.heap p (vwO p a) from I.hok p _ hp).1
  obtain ⟨_, hsys, vs, rel, dof⟩ := dk_of I.hok ha
  obtain ⟨ep, dat⟩ := dof.dictAt
  obtain ⟨ob, es, ho, ex, hdat, hko, hpr, hnd⟩ := id dat
  have hlt : a < s.heap.objs.size := Heap.lt_size ho
  have hlv : vs.length = ns.length := by
    have e1 := congrArg List.length hv
    rw [List.length_map, List.length_map] at e1
    rw [← e1]
    exact (KV.length rel).symm
  have hval : ∀ (i : Nat) (v : Value), (∃ k, vs[i]? = some (k, v)) → ∃ t, v = Value.int (ns.getD i 0) t := fun i v ⟨k, hk⟩ => by
    obtain ⟨x, h1, h2⟩ := KV.at' rel hk
    have e1 : (kvs.map (·.2))[i]? = some x := by rw [List.getElem?_map, h1] <;> rfl
    rw [hv, List.getElem?_map] at e1
    obtain ⟨j, hj, e2⟩ := Option.map_eq_some_iff.mp e1
    subst e2
    obtain ⟨t, e3⟩ := h2
    refine ⟨t, ?_⟩
    rw [e3, List.getD_eq_getElem?_getD, hj] <;> rfl
  refine call_sum_walkAnyS (wpAny_pyIter_values (v := p) (d := a) ⟨_, vw, rfl, rfl⟩ dat ?_)
  refine ⟨_, _, _, _, _, _, _, fun i => ns.getD i 0, rfl, (Walks.dictValues (knd := mixKind X.prog X.w) (A := X.A.in1) (I.ok.hd hc) s.heap.objs.size a (Nat.ne_of_lt hlt) vs ep).toS,
    ⟨⟨_, Heap.get?_push_size _ rfl, rfl, rfl⟩, dat.keep fun b u e => Heap.get?_push_of_some _ e⟩, fun b hb => ?_, hval, fun s' t' hm => ?_⟩
  · rcases List.mem_cons.mp hb with e | hb
    · rw [e, Heap.size_push]
      exact Nat.lt_succ_self _
    · rw [List.mem_singleton.mp hb, Heap.size_push]
      exact Nat.lt_succ_of_lt hlt
  · have hk : ∀ b o, s.heap.get? b = some o → s'.heap.get? b = some o := fun b o e =>
      hm.heap b o (fun hI => absurd (Heap.lt_size e) (by rw [List.mem_singleton.mp hI]; exact Nat.lt_irrefl _)) (Heap.get?_push_of_some _ e)
    rw [Moved.eq_with hm]
    refine ⟨.int _, H, I.kept (t' := s'.toks) hk, ⟨t', rfl⟩, ?_⟩
    rw [preSum_ints, hlv, List.take_length]
    exact q
def rListV : List V → Hp → VK → Prop := fun xs H Q => ∃ (p a : Addr) (kvs : List (Key × V)), xs = [.ref p] ∧ H p = some (vwO p a) ∧ H a = some (.dK kvs) ∧ ∀ r, H r = none → Q (.ref r) (upd H r (.lst (kvs.map (·.2))))
theorem vals_at {us : List Value} {xs : List V} (hl : us.length = xs.length) (h : ∀ (i : Nat) (u : Value), us[i]? = some u → ∃ x : V, xs[i]? = some x ∧ RelV x u) : Vals xs us := by
  induction xs generalizing us with
  | nil =>
    cases us with
    | nil => exact .nil
    | cons u us => cases hl
  | cons x xs ih =>
    cases us with
    | nil => cases hl
    | cons u us =>
      obtain ⟨y, e, r⟩ := h 0 u rfl
      cases e
      exact .cons r (ih (by simpa using hl) fun i u hu => by simpa using h (i + 1) u (by simpa using hu))
theorem cr_listV (hc : X.calm = true) : CallR X (.type "list") rListV := by
  intro pins s σ H xs us Q I r h
  obtain ⟨p, a, kvs, rfl, hp, ha, q⟩ := h
  rw [Vals.ref1 r]
  have vw : s.heap.get? p = some (DSub.viewOb "dict_values" a) := (show ObjOk X.prog X.w H s.heap p (vwO p a) from I.hok p _ hp).1
  obtain ⟨hz, hsys, vs, rel, dof⟩ := dk_of I.hok ha
  obtain ⟨ep, dat⟩ := dof.dictAt
  have hl : kvs.length = vs.length := KV.length rel
  refine PySem.W.kdl_call (PySem.W.kdl_values (knd := mixKind X.prog X.w) (kvs := vs) (ep := ep)) (I.ok.hd hc) ⟨⟨_, vw, rfl, rfl⟩, dat⟩ (by omega) fun h' tk acc c hk hS hacc => ?_
  refine ⟨.ref s.heap.objs.size, _, I.laid (t' := tk) (a := s.heap.objs.size) (o := .lst (kvs.map (·.2))) hk (Nat.le_refl _) ⟨by rw [List.length_map]; exact hz, acc.toList, c, vals_at (by rw [Array.length_toList, hacc.1, List.length_map, hl]) fun i u hu => ?_, by rw [Array.toArray_toList]; exact hS⟩, rfl, q _ (I.hok.fresh (Nat.le_refl _))⟩
  obtain ⟨k, e⟩ := hacc.2 i u (by rw [← Array.getElem?_toList]; exact hu)
  obtain ⟨x, h1, h2⟩ := KV.at' rel e
  exact ⟨x, by rw [List.getElem?_map, h1] <;> rfl, h2⟩
def rComb : List V → Hp → VK → Prop := fun vs H Q => ∃ a b : Int, vs = [.int a, .int b] ∧ 0 ≤ a ∧ 0 ≤ b ∧ a < 2 ^ 64 ∧ b ≤ 9000 ∧ Q (.int (PySem.W.mcComb a b)) H
theorem cr_comb : CallR X (.builtin "math.comb") rComb := by
  intro pins s σ H vs us Q I r h
  obtain ⟨a, b, rfl, ha, hb, ha2, hk, q⟩ := h
  obtain ⟨t, u, rfl⟩ := Vals.int2 r
  exact PySem.W.mc_comb ha hb ha2 (.inl hk) fun _ => ⟨.int _, H, I.tok _, ⟨_, rfl⟩, q⟩
end
end L2

set_option Elab.async false
set_option linter.all false
set_option maxRecDepth 100000
set_option maxHeartbeats 4000000
namespace T12
open PySem L2 EK
abbrev sIsText : Stmt := top 6
abbrev sCkText : Stmt := top 7
/-- a thing whose kind is known -/
inductive Pl (H : Hp) : V → Prop
  | non : Pl H .non
  | int (i : Int) : Pl H (.int i)
  | str (z : Str) : Pl H (.str z)
  | bl (b : Bool) : Pl H (.bl b)
  | tup {a : Addr} {xs : List V} (e : H a = some (.tup xs)) : Pl H (.ref a)
  | lst {a : Addr} {xs : List V} (e : H a = some (.lst xs)) : Pl H (.ref a)
  | dct {a : Addr} {kvs : List (Key × V)} (e : H a = some (.dK kvs)) : Pl H (.ref a)
theorem Pl.keep {H H' : Hp} {x : V} (h : Pl H x) (s : Same H H') : Pl H' x := by
  cases h with
  | non => exact .non
  | int i => exact .int i
  | str z => exact .str z
  | bl b => exact .bl b
  | tup e => exact .tup (s _ _ e)
  | lst e => exact .lst (s _ _ e)
  | dct e => exact .dct (s _ _ e)
theorem Pl.keepB {wl : Addr} {H H' : Hp} {x : V} (h : Pl H x) (s : KeepB wl H H') (n : x ≠ .ref wl) : Pl H' x := by
  cases h with
  | non => exact .non
  | int i => exact .int i
  | str z => exact .str z
  | bl b => exact .bl b
  | @tup a xs e => exact .tup (s _ _ e fun z => n (by rw [z]))
  | @lst a xs e => exact .lst (s _ _ e fun z => n (by rw [z]))
  | @dct a xs e => exact .dct (s _ _ e fun z => n (by rw [z]))
def isStrV : V → Bool
  | .str _ => true
  | _ => false
def isIntV : V → Bool
  | .int _ => true
  | .bl _ => true
  | _ => false
def isBlV : V → Bool
  | .bl _ => true
  | _ => false
theorem Pl.isStr {K : PySem.W.Frag} {H : Hp} {x : V} (h : Pl H x) : ∃ t, TyX K H x t ∧ PySem.W.kitOne K t (.type "str") = some (isStrV x) := by
  cases h with
  | non => exact ⟨_, .base .non, kit_ty (r := false) (by decide +kernel)⟩
  | int i => exact ⟨_, .base (.int i), kit_ty (r := false) (by decide +kernel)⟩
  | str z => exact ⟨_, .base (.str z), kit_ty (r := true) (by decide +kernel)⟩
  | bl b => exact ⟨_, .base (.bl b), kit_ty (r := false) (by decide +kernel)⟩
  | tup e => exact ⟨_, .base (.tup e), kit_ty (r := false) (by decide +kernel)⟩
  | lst e => exact ⟨_, .base (.lst e), kit_ty (r := false) (by decide +kernel)⟩
  | dct e => exact ⟨_, .base (.dK e), kit_ty (r := false) (by decide +kernel)⟩
theorem Pl.isInt {K : PySem.W.Frag} {H : Hp} {x : V} (h : Pl H x) : ∃ t, TyX K H x t ∧ PySem.W.kitOne K t (.type "int") = some (isIntV x) := by
  cases h with
  | non => exact ⟨_, .base .non, kit_ty (r := false) (by decide +kernel)⟩
  | int i => exact ⟨_, .base (.int i), kit_ty (r := true) (by decide +kernel)⟩
  | str z => exact ⟨_, .base (.str z), kit_ty (r := false) (by decide +kernel)⟩
  | bl b => exact ⟨_, .base (.bl b), kit_ty (r := true) (by decide +kernel)⟩
  | tup e => exact ⟨_, .base (.tup e), kit_ty (r := false) (by decide +kernel)⟩
  | lst e => exact ⟨_, .base (.lst e), kit_ty (r := false) (by decide +kernel)⟩
  | dct e => exact ⟨_, .base (.dK e), kit_ty (r := false) (by decide +kernel)⟩
theorem Pl.isBl {K : PySem.W.Frag} {H : Hp} {x : V} (h : Pl H x) : ∃ t, TyX K H x t ∧ PySem.W.kitOne K t (.type "bool") = some (isBlV x) := by
  cases h with
  | non => exact ⟨_, .base .non, kit_ty (r := false) (by decide +kernel)⟩
  | int i => exact ⟨_, .base (.int i), kit_ty (r := false) (by decide +kernel)⟩
  | str z => exact ⟨_, .base (.str z), kit_ty (r := false) (by decide +kernel)⟩
  | bl b => exact ⟨_, .base (.bl b), kit_ty (r := true) (by decide +kernel)⟩
  | tup e => exact ⟨_, .base (.tup e), kit_ty (r := false) (by decide +kernel)⟩
  | lst e => exact ⟨_, .base (.lst e), kit_ty (r := false) (by decide +kernel)⟩
  | dct e => exact ⟨_, .base (.dK e), kit_ty (r := false) (by decide +kernel)⟩
def numB (x : V) (m : Int) : Bool := match x with
  | .int i => decide (m ≤ i)
  | _ => false
def letS : Str := "abcdefghijklmnopqrstuvwxyz"
def isT (z : Str) : Bool := z.cps.toList.all fun c => decide (c ∈ letS.cps.toList)
end T12

set_option Elab.async false
set_option linter.all false
set_option maxRecDepth 100000
set_option maxHeartbeats 4000000
/-! DataKit: sorted, min of data at any depth and length, as rules of the layer. -/
namespace L2
open PySem PySem.Spec PyProof.Rows
section
variable {X : Cx} {pins : List (Addr × Obj)} {σ : St} {H : Hp} {s : Shared}
theorem each_vals (I : Inv X pins σ H s) : ∀ {bs : List (V × PyData)} {us : List Value}, Vals (bs.map (·.1)) us → (∀ b ∈ bs, Dp X.K H b.1 b.2) → PySem.W.EachIs (fun v b => RelV b.1 v) us bs ∧ PySem.W.EachIs (fun v b => ∃ as, Reads s.heap v b.2 as) us bs
  | [], _, r, _ => by
    cases r
    exact ⟨.nil, .nil⟩
  | b :: bs, _, r, h => by
    cases r with
    | cons r1 r2 =>
      obtain ⟨e1, e2⟩ := each_vals I r2 fun c hc => h c (List.mem_cons_of_mem _ hc)
      exact ⟨.cons r1 e1, .cons (Dp.reads I _ _ _ (h b List.mem_cons_self) r1) e2⟩
theorem vals_each : ∀ {us : List Value} {bs : List (V × PyData)}, PySem.W.EachIs (fun v b => RelV b.1 v) us bs → Vals (bs.map (·.1)) us
  | _, _, .nil => .nil
  | _, _, .cons r t => .cons r (vals_each t)
/-- sorted(xs) of data that are alike -/
def rSortedD (K : PySem.W.Frag) : List V → Hp → VK → Prop := fun vs H Q => ∃ (a : Addr) (bs : List (V × PyData)), vs = [V.ref a] ∧ SqL K H a (bs.map (·.1)) ∧ (∀ b ∈ bs, Dp K H b.1 b.2) ∧ PySem.W.AllAlike (bs.map (·.2)) ∧ PySem.W.Sortable (bs.map (·.2)) ∧ (∀ b ∈ bs, b.2.depth ≤ 50) ∧
  ∀ p, H p = none → Q (.ref p) (upd H p (.lst ((bs.mergeSort (PySem.W.dataLe false (·.2))).map (·.1))))
theorem cr_sortedD (hu : X.A.units + 64 < cLine) : CallR X (.builtin "sorted") (rSortedD X.K) := by
  intro pins s σ H vs us Q I r h
  obtain ⟨a, bs, rfl, hs, hd, hal, hk, hdep, q⟩ := h
  obtain ⟨its, rv, hl, hz⟩ := I.list hs
  obtain ⟨u, rfl, ru⟩ := vals1 r
  obtain rfl : u = Value.ref a := ru
  obtain ⟨e1, e2⟩ := each_vals I rv hd
  rw [List.length_map] at hz
  refine PySem.W.sorted_data (enc := fun b : V × PyData => b.2) hl.isList e1 e2 hal hk hz (fun b hb => by have := hdep b hb; omega) fun out hlen ho => ?_
  obtain ⟨n, hn⟩ := sortedAll_at s.heap its out.toArray
  have rv2 := vals_each ho
  exact ⟨.ref (s.heap.objs.size + 1), _, I.laid (t' := s.toks) (a := s.heap.objs.size + 1) (o := .lst ((bs.mergeSort (PySem.W.dataLe false (·.2))).map (·.1))) (fun b o e => sortedAll_old e) (Nat.le_succ _) ⟨by rw [rv2.length, hlen]; exact hz, out, n, rv2, hn⟩, rfl, q _ (I.hok.fresh (Nat.le_succ _))⟩
/-- min(xs) of texts, one at least -/
def minS (x : Str) (xs : List Str) : Str := xs.foldl (fun a y => if decide (y.cps.toList < a.cps.toList) = true then y else a) x
theorem minD_strs (x : Str) : ∀ xs : List Str, PySem.W.minD (.str x) (xs.map PyData.str) = .str (minS x xs) := by
  intro xs
  induction xs generalizing x with
  | nil => rfl
  | cons y ys ih =>
    show PySem.W.minD (if PySem.W.dataLt (.str y) (.str x) = true then .str y else .str x) (ys.map PyData.str) = .str (minS (if decide (y.cps.toList < x.cps.toList) = true then y else x) ys)
    rw [PySem.W.dataLt_str]
    split
    · exact ih y
    · exact ih x
theorem reads_strs {h : Heap} : ∀ {xs : List Str} {us : List Value}, Vals (xs.map V.str) us → ∃ as, ReadsAll h us (xs.map PyData.str) as
  | [], _, r => by
    cases r
    exact ⟨_, .nil⟩
  | x :: xs, _, r => by
    cases r with
    | cons r1 r2 =>
      obtain ⟨t, rfl⟩ := r1
      obtain ⟨as, z⟩ := reads_strs (h := h) r2
      exact ⟨_, .cons (.str x t) z⟩
theorem depth_strs : ∀ xs : List Str, PyData.depthAll (xs.map PyData.str) ≤ 1
  | [] => by simp [PyData.depthAll]
  | x :: xs => by
    have := depth_strs xs
    simp only [List.map_cons, PyData.depthAll, PyData.depth]
    omega
def rMinS (K : PySem.W.Frag) : List V → Hp → VK → Prop := fun vs H Q => ∃ (a : Addr) (x : Str) (xs : List Str), vs = [V.ref a] ∧ SqL K H a ((x :: xs).map V.str) ∧ Q (.str (minS x xs)) H
theorem cr_minS (hc : X.calm = true) (hu : X.A.units + 64 < cLine) : CallR X (.builtin "min") (rMinS X.K) := by
  intro pins s σ H vs us Q I r h
  obtain ⟨a, x, xs, rfl, hs, q⟩ := h
  obtain ⟨its, rv, hl, hz⟩ := I.list hs
  obtain ⟨u, rfl, ru⟩ := vals1 r
  obtain rfl : u = Value.ref a := ru
  obtain ⟨as, hr⟩ := reads_strs (h := s.heap) rv
  have hdep := depth_strs (x :: xs)
  refine PySem.W.min_list_data (x := .str x) (xs := xs.map PyData.str) (I.ok.hd hc) hl.isList (by simpa using hr) ⟨fun y hy z hz => ?_, fun y hy => ?_⟩ (by have : PyData.depthAll (PyData.str x :: xs.map PyData.str) ≤ 1 := hdep; omega) fun i v h' tk bs hv hrd hk => ?_
  · obtain ⟨y', _, rfl⟩ := List.mem_map.mp (show y ∈ (x :: xs).map PyData.str from hy)
    obtain ⟨z', _, rfl⟩ := List.mem_map.mp (show z ∈ (x :: xs).map PyData.str from hz)
    simp [PySem.W.alike]
  · obtain ⟨y', _, rfl⟩ := List.mem_map.mp (show y ∈ (x :: xs).map PyData.str from hy)
    exact fun z => nomatch z
  · rw [minD_strs] at hrd
    cases hrd with
    | str _ t => exact ⟨.str (minS x xs), H, I.kept (t' := tk) hk, ⟨t, rfl⟩, q⟩
end
end L2

set_option Elab.async false
set_option linter.all false
set_option maxRecDepth 100000
set_option maxHeartbeats 4000000
/-! SortKit: a list put in order, as a plain function that evaluates. -/
namespace L2
open PySem
section
variable {α : Type} (le : α → α → Bool)
def ins (a : α) : List α → List α
  | [] => [a]
  | b :: r => if le a b = true then a :: b :: r else b :: ins a r
def isort : List α → List α
  | [] => []
  | a :: r => ins le a (isort r)
theorem ins_perm (a : α) : ∀ l, (ins le a l).Perm (a :: l)
  | [] => .refl _
  | b :: r => by
    unfold ins
    split
    · exact .refl _
    · exact ((ins_perm a r).cons b).trans (.swap a b r)
theorem isort_perm : ∀ l, (isort le l).Perm l
  | [] => .refl _
  | a :: r => (ins_perm le a _).trans ((isort_perm r).cons a)
variable (trans : ∀ x y z, le x y = true → le y z = true → le x z = true) (total : ∀ x y, (le x y || le y x) = true)
include trans total
theorem ins_sorted (a : α) : ∀ {l : List α}, l.Pairwise (fun x y => le x y = true) → (ins le a l).Pairwise (fun x y => le x y = true)
  | [], _ => List.pairwise_singleton _ _
  | b :: r, h => by
    obtain ⟨h1, h2⟩ := List.pairwise_cons.mp h
    unfold ins
    split
    · rename_i q
      refine List.pairwise_cons.mpr ⟨fun c hc => ?_, h⟩
      rcases List.mem_cons.mp hc with rfl | hc
      · exact q
      · exact trans _ _ _ q (h1 c hc)
    · rename_i q
      refine List.pairwise_cons.mpr ⟨fun c hc => ?_, ins_sorted a h2⟩
      have hc2 := (ins_perm le a r).mem_iff.mp hc
      rcases List.mem_cons.mp hc2 with rfl | hc2
      · have t := total c b
        rw [Bool.or_eq_true] at t
        exact t.resolve_left q
      · exact h1 c hc2
theorem isort_sorted : ∀ l : List α, (isort le l).Pairwise (fun x y => le x y = true)
  | [] => List.Pairwise.nil
  | a :: r => ins_sorted le trans total a (isort_sorted r)
omit trans total in
theorem sorted_uniq : ∀ {l m : List α}, (∀ x ∈ l, ∀ y ∈ l, le x y = true → le y x = true → x = y) → l.Perm m → l.Pairwise (fun x y => le x y = true) → m.Pairwise (fun x y => le x y = true) → l = m
  | [], m, _, p, _, _ => by rw [List.nil_perm.mp p]
  | a :: l, m, an, p, h1, h2 => by
    cases m with
    | nil => exact absurd p.length_eq (by simp)
    | cons b m =>
      obtain ⟨s1, s2⟩ := List.pairwise_cons.mp h1
      obtain ⟨t1, t2⟩ := List.pairwise_cons.mp h2
      have e : a = b := by
        have ha : a ∈ b :: m := p.mem_iff.mp List.mem_cons_self
        have hb : b ∈ a :: l := p.mem_iff.mpr List.mem_cons_self
        rcases List.mem_cons.mp ha with e | ha
        · exact e
        rcases List.mem_cons.mp hb with e | hb2
        · exact e.symm
        exact an _ List.mem_cons_self _ hb (s1 b hb2) (t1 a ha)
      subst e
      rw [sorted_uniq (fun x hx y hy => an x (List.mem_cons_of_mem _ hx) y (List.mem_cons_of_mem _ hy)) p.cons_inv s2 t2]
theorem msort_isort (l : List α) (an : ∀ x ∈ l, ∀ y ∈ l, le x y = true → le y x = true → x = y) : l.mergeSort le = isort le l := by
  refine sorted_uniq le (fun x hx y hy => an x ((List.mergeSort_perm l le).mem_iff.mp hx) y ((List.mergeSort_perm l le).mem_iff.mp hy)) ((List.mergeSort_perm l le).trans (isort_perm le l).symm) ?_ (isort_sorted le trans total l)
  exact List.pairwise_mergeSort (fun a b c => trans a b c) (fun a b => total a b) l
end
/-- a sign and its place, as data -/
def skey (cs : List Nat) (i : Nat) : PyData := .tuple [.str ⟨#[cs.getD i 0]⟩, .int i]
/-- a pair of an address and its place, by sign and place -/
def dle {β : Type} (k : β → PyData) : β → β → Bool := PySem.W.dataLe false k
theorem dle_trans {β : Type} (k : β → PyData) (x y z : β) (h1 : dle k x y = true) (h2 : dle k y z = true) : dle k x z = true := (PySem.W.sortLe_total (PyProof.Rows.listOrd PyProof.Rows.itemOrd) false fun b => PySem.W.keyToks (k b)).trans x y z h1 h2
theorem dle_total {β : Type} (k : β → PyData) (x y : β) : (dle k x y || dle k y x) = true := by
  rw [Bool.or_eq_true]
  exact (PySem.W.sortLe_total (PyProof.Rows.listOrd PyProof.Rows.itemOrd) false fun b => PySem.W.keyToks (k b)).total x y
theorem dle_anti {β : Type} {k : β → PyData} {x y : β} (h1 : dle k x y = true) (h2 : dle k y x = true) : PySem.W.keyToks (k x) = PySem.W.keyToks (k y) := by
  have e1 : (!(PyProof.Rows.listOrd PyProof.Rows.itemOrd).blt (PySem.W.keyToks (k y)) (PySem.W.keyToks (k x))) = true := h1
  have e2 : (!(PyProof.Rows.listOrd PyProof.Rows.itemOrd).blt (PySem.W.keyToks (k x)) (PySem.W.keyToks (k y))) = true := h2
  rw [Bool.not_eq_true'] at e1 e2
  exact (PyProof.Rows.listOrd PyProof.Rows.itemOrd).total _ _ e2 e1
/-- the places in the order of their signs -/
def ordI (cs : List Nat) : List Nat := isort (dle (skey cs)) (List.range cs.length)
theorem skey_inj {cs ds : List Nat} {i j : Nat} (h : PySem.W.keyToks (skey cs i) = PySem.W.keyToks (skey ds j)) : i = j := by
  have e1 : ∀ (es : List Nat) (n : Nat), PySem.W.keyToks (skey es n) = [.inl 1, .inr [es.getD n 0], .inl 1, .inl n, .inl 0] := fun es n => by
    simp [skey, PySem.W.keyToks, PySem.W.keyToksAll]
  rw [e1, e1] at h
  injection h with _ h
  injection h with _ h
  injection h with _ h
  injection h with h _
  injection h with h
  exact Int.ofNat.inj h
/-- the pairs at their places, put in order: as ordI says -/
theorem sort_pairs (cs : List Nat) (bs : List (V × PyData)) (f : Nat → Addr) (e : bs = (List.range cs.length).map fun i => (V.ref (f i), skey cs i)) :
    (bs.mergeSort (PySem.W.dataLe false (·.2))).map (·.1) = (ordI cs).map fun i => V.ref (f i) := by
  have h1 := List.map_mergeSort (f := fun i : Nat => (V.ref (f i), skey cs i)) (r := dle (skey cs)) (s := PySem.W.dataLe false (·.2)) (l := List.range cs.length) fun a _ b _ => rfl
  rw [e, ← h1, List.map_map, msort_isort (dle (skey cs)) (dle_trans _) (dle_total _) _ fun x _ y _ h1 h2 => skey_inj (dle_anti h1 h2)]
  rfl
example : ordI [98, 97, 36, 97] = [2, 1, 3, 0] := by decide +kernel
end L2

set_option Elab.async false
set_option linter.all false
set_option maxRecDepth 100000
set_option maxHeartbeats 4000000
/-! KeyKit: sorted(range(..), key=lambda i: text[i:]), the text a captured name. -/
namespace L2
open PySem PySem.Spec PyProof.Rows LamX
/-- the suffix of z from i on -/
def sufS (z : Str) (i : Int) : Str := cutS z (some i) none
theorem made_cut {z : Str} {t : Tok} {i : Int} {ti : Tok} {R : Value → Shared → Prop} {s : Shared} (hz : z.length ≤ sizeLine) (k : ∀ tk, R (.str (sufS z i) tk) { s with toks := s.toks } ∧ R (.str (sufS z i) tk) { s with toks := s.toks + 1 }) :
    (sliceMade z t (some (i, ti)) none none).post R s := by
  have hl : (PySem.StrLaws.sliceText z (some i) none).length ≤ sizeLine := by
    rw [sliceText_cut]
    exact Nat.le_trans (cutS_length z _ _) hz
  have e : sufS z i = PySem.StrLaws.sliceText z (some i) none := (sliceText_cut z (some i) none).symm
  rw [e] at k
  unfold PySem.StrLaws.sliceText at k hl
  show Made.post (if ((1 : Int) == 1 && (Builtin.Str.strSliceIndices (some i) none 1 z.length).length == z.length) = true then Made.val (.str z t)
    else Made.str ⟨((Builtin.Str.strSliceIndices (some i) none 1 z.length).filterMap (z.cps[·]?)).toArray⟩) R s
  by_cases c : ((1 : Int) == 1 && (Builtin.Str.strSliceIndices (some i) none 1 z.length).length == z.length) = true
  · rw [if_pos c] at k ⊢
    exact (k t).1
  · rw [if_neg c] at k hl ⊢
    exact ⟨hl, (k _).2⟩
/-- the lambda's own scope: one parameter, captured names -/
structure KeyScope (scope : Scope) (pl tx : Str) : Prop where
  kind : scope.kind = .function
  co : scope.isCoroutine = false
  gen : scope.isGenerator = false
  noCell : ∀ y ∈ scope.names, y.2 ≠ .cell
  par : scope.names.lookup pl = some .local
  cap : scope.names.lookup tx = some .free
def keyScB (scope : Scope) (pl tx : Str) : Bool := decide (scope.kind = .function) && !scope.isCoroutine && !scope.isGenerator && scope.names.all (fun y => !decide (y.2 = .cell)) && decide (scope.names.lookup pl = some .local) && decide (scope.names.lookup tx = some .free)
theorem keySc_by {scope : Scope} {pl tx : Str} (h : keyScB scope pl tx = true) : KeyScope scope pl tx := by
  unfold keyScB at h
  simp only [Bool.and_eq_true, Bool.not_eq_true', decide_eq_true_eq, List.all_eq_true, decide_eq_false_iff_not] at h
  obtain ⟨⟨⟨⟨⟨h1, h2⟩, h3⟩, h4⟩, h5⟩, h6⟩ := h
  exact ⟨h1, h2, h3, h4, h5, h6⟩
section
variable {prog : Program} {w : World} {A : Around} {s : Shared}
/-- one call of the key -/
theorem key_call {f c' c : Addr} {q : Str} {params : Arguments} {scope : Scope} {cl : List (Str × Addr)} {pm ctv : Value} {pl tx : Str} {p1 p2 p3 p4 : Pos} {z : Str} {tz ti : Tok} {i : Int} (KS : KeyScope scope pl tx) (hd : A.depth < recursionLimit)
    (of : s.heap.get? f = some (PySem.W.kla_obj "<lambda>" q params (.Subscript (.Name tx p1) (.Slice (some (.Name pl p2)) none none p3) p4) scope cl pm c' ctv)) (hcd : s.heap.CodeRec (.ref c') q)
    (hbind : ∀ u : Value, bindArgs (PySem.W.kla_fn "<lambda>" q params (.Subscript (.Name tx p1) (.Slice (some (.Name pl p2)) none none p3) p4) scope cl pm (.ref c') ctv) ⟨[u], []⟩ = pure [(pl, u)])
    (hcl : cl.lookup tx = some c) (hcell : s.heap.IsCell c (some (.str z tz))) (hz : z.length ≤ sizeLine) (nl : s.heap.NoLimit)
    (d1 : (tx == ("__debug__" : Str)) = false := by decide) (d2 : (pl == ("__debug__" : Str)) = false := by decide) (d3 : (tx == ("__classdict__" : Str)) = false := by decide) :
    wpAny (model prog w) A (call (.ref f) [.int i ti]) (PySem.W.KeyPure (.str (sufS z i)) s) (fun _ _ => False) s := by
  refine wpAny_call (codeAny_mono (R := fun r s' => ∃ v, r = .ok (.ret v) ∧ PySem.W.KeyPure (.str (sufS z i)) s v s') ?_ fun r s' hq => ?_)
  · refine PySem.W.kla_callFunE hd of rfl KS.co KS.gen rfl hcd ?_
    rw [hbind]
    refine wpAny_pure (wpAny_newFunctionEnv KS.noCell (fun y hy => by rw [List.mem_singleton.mp hy]; exact KS.par) (fun h₁ hns hsb => ⟨nl.fresh _ hsb, ?_⟩) KS.kind)
    have kp : ∀ b o, s.heap.get? b = some o → h₁.get? b = some o := fun b o e => hsb.extBut b o (Nat.ne_of_lt (Heap.lt_size e)) (Heap.get?_push_of_some _ e)
    have cell1 : h₁.IsCell c (some (.str z tz)) := by
      obtain ⟨o, ho, hdd⟩ := hcell
      exact ⟨o, kp _ _ ho, hdd⟩
    refine PySem.W.kla_codeExpr ?_
    refine wpAny_Subscript_str_slice (wpAny_Name (wpAny_loadName_free KS.kind KS.cap hcl cell1 ?_ d3) d1)
    refine evalPart_some_step (wpAny_Name (wpAny_loadName_local KS.kind KS.par hns (v := .int i ti) (by simp) ?_) d2)
    refine evalPart_none_step ⟨z, tz, some (i, ti), none, rfl, rfl, rfl, made_cut hz fun tk => ⟨⟨_, rfl, _, _, rfl, fun b o e => Heap.get?_push_of_some _ (kp _ _ e), .str _ _⟩, ⟨_, rfl, _, _, rfl, fun b o e => Heap.get?_push_of_some _ (kp _ _ e), .str _ _⟩⟩⟩
  · obtain ⟨v, rfl, k⟩ := hq
    exact k
end
end L2
namespace L2
open PySem PySem.Spec PyProof.Rows LamX NdefX
/-- a lambda's function object at f -/
def LamO (f : Addr) (F : NF) (e : Expr) : HO := .ext fun h => ∃ pm ctv : Value, h.get? f = some (PySem.W.kla_obj "<lambda>" F.qual F.params e F.scope F.cl pm F.c ctv)
section
variable {X : Cx} {pins : List (Addr × Obj)} {σ : L2.St} {H : Hp} {s : Shared}
theorem inv_lam {F : NF} {e : Expr} {t' : Nat} {pm ctv : Value} (I : Inv X pins σ H s) :
    Inv X pins σ (upd H s.heap.objs.size (LamO s.heap.objs.size F e)) { s with heap := s.heap.push (PySem.W.kla_obj "<lambda>" F.qual F.params e F.scope F.cl pm F.c ctv), toks := t' } := by
  refine I.laid (a := s.heap.objs.size) (fun b u q => Heap.get?_push_of_some _ q) (Nat.le_refl _) ?_
  have g : (s.heap.push (PySem.W.kla_obj "<lambda>" F.qual F.params e F.scope F.cl pm F.c ctv)).get? s.heap.objs.size = some (PySem.W.kla_obj "<lambda>" F.qual F.params e F.scope F.cl pm F.c ctv) := Heap.get?_push_size _ rfl
  exact ⟨⟨pm, ctv, g⟩, ⟨_, g⟩, fun h1 h2 ⟨p, t, z⟩ st => ⟨p, t, st _ z⟩⟩
/-- a lambda is made, its object known -/
theorem lam_make3 {T : List (Addr × Str)} {cc P : Addr} {ar : Arguments} {bd : Expr} {sc : Scope} {pos : Pos} {E : Value → Shared → Prop} {R : Value → Shared → Prop} (I : Inv X pins σ H s) (TB : TabB X.base X.mg cc P) (hcode : X.env.code = .ref cc)
    (hm : (P, X.env.qual ++ "<lambda>") ∈ T) (hu : ∀ p ∈ T, p.1 = P → p.2 = X.env.qual ++ "<lambda>") (hT : Tabs T H) (hdef : defaultsOf ar X.env = ([], [])) (hfr : ∀ y ∈ sc.names, y.2 = .free → ∃ c, X.env.cells.lookup y.1 = some c)
    (kk : ∀ (f c' : Addr) (H1 : Hp) (s' : Shared), Inv X pins σ H1 s' → ExtN H H1 → (∀ b, H1 b = Option.none → H b = Option.none) → Tabs T H1 → H f = none →
      H1 f = some (LamO f ⟨"<lambda>", X.env.qual ++ "<lambda>", ar, [], sc, cloFrom X.env.cells sc.names [], c'⟩ bd) → H1 c' = some (CodeO c' (X.env.qual ++ "<lambda>")) → (∀ b o, s.heap.get? b = some o → o.cls ≠ .none → s'.heap.get? b = some o) → R (.ref f) s') :
    wpAny (model X.prog X.w) X.A (eval (.Lambda ar bd sc pos) X.env) R E s := by
  obtain ⟨ps, gP, tr, am⟩ := hT _ hm
  refine PySem.W.kla_eval hdef ?_
  have bP : s.heap.BuiltinsAt X.mg P := TB.bm.keeps I.bk
  have gP' : s.heap.get? P = some { cls := .none, data := .fields ps } := I.hok P _ gP
  cases hc : codeAmong pos ps.toList with
  | none =>
    refine PySem.W.kla_makeFunction (mg := X.mg) (c := cc) (P := P) (ps := ps) (closure_ok hfr) I.ok.glob (I.mod.glob.keeps I.bk) hcode (TB.code.keeps I.bk) gP' tr hc TB.gP bP fun c' ctv h' tk hx hge hlt hrec htb => ?_
    obtain ⟨c2, oc, vs, t, e2, goc, hd, hv⟩ := hrec
    cases e2
    have nC : H c' = none := I.hok.fresh hge
    have J := inv_table (t' := tk) (more := #[rawInt pos.line, rawInt pos.col, .ref c']) (h' := h') I gP (fun b o hb q => hx b o hb q) htb hge ⟨oc, vs, t, goc, hd, hv⟩
    have ex : ExtN H (upd (upd H P (.tbl (ps ++ #[rawInt pos.line, rawInt pos.col, .ref c']))) c' (CodeO c' (X.env.qual ++ "<lambda>"))) := fun b o q nt => by
      rw [upd_ne (ne_of_none q nC), upd_ne (fun z => nt ps (Option.some.inj (q.symm.trans (by rw [z]; exact gP))))]; exact q
    have el : (ps ++ #[rawInt pos.line, rawInt pos.col, .ref c']).toList = ps.toList ++ [rawInt pos.line, rawInt pos.col, .ref c'] := by simp
    have T1 : Tabs T (upd (upd H P (.tbl (ps ++ #[rawInt pos.line, rawInt pos.col, .ref c']))) c' (CodeO c' (X.env.qual ++ "<lambda>"))) := fun p hp => by
      by_cases hb : p.1 = P
      · rw [hu p hp hb, hb]
        refine ⟨_, by rw [upd_ne (ne_of_none gP nC), upd_same], by rw [el]; exact PySem.TriplesOk_snoc _ _ _ _ tr, fun p' cv hcv => ?_⟩
        rw [el] at hcv
        rcases among_app _ tr hcv with z | z
        · obtain ⟨c0, q1, q2⟩ := am p' cv z; exact ⟨c0, q1, ex _ _ q2 codeO_ne⟩
        · exact ⟨c', z, upd_same⟩
      · obtain ⟨ps', a1, a2, a3⟩ := hT p hp
        refine ⟨ps', by rw [upd_ne (ne_of_none a1 nC), upd_ne hb]; exact a1, a2, fun p' cv hcv => ?_⟩
        obtain ⟨c0, q1, q2⟩ := a3 p' cv hcv; exact ⟨c0, q1, ex _ _ q2 codeO_ne⟩
    have nF := J.hok.fresh (Nat.le_refl _)
    have J2 := inv_lam (F := ⟨"<lambda>", X.env.qual ++ "<lambda>", ar, [], sc, cloFrom X.env.cells sc.names [], c'⟩) (e := bd) (t' := tk) (pm := (X.mg "__name__").getD .none) (ctv := ctv) J
    refine kk h'.objs.size c' _ _ J2 (fun b o q n => (upd_ne (ne_of_none (ex b o q n) nF)).trans (ex b o q n)) (fun b q => upd_none (upd_none (upd_none q))) (T1.ext fun b o q => (upd_ne (ne_of_none q nF)).trans q) (I.hok.fresh (Nat.le_trans hge (Nat.le_of_lt hlt))) upd_same ?_ ?_
    · exact (upd_ne (Nat.ne_of_lt hlt)).trans upd_same
    · exact fun b o q nc => Heap.get?_push_of_some _ (hx b o (fun z => by rw [z, gP'] at q; cases q; exact nc rfl) q)
  | some cv =>
    obtain ⟨c', q, gc⟩ := am pos cv hc
    subst q
    refine PySem.W.kla_makeFunctionHit (mg := X.mg) (c := cc) (P := P) (ps := ps) (closure_ok hfr) I.ok.glob (I.mod.glob.keeps I.bk) hcode (TB.code.keeps I.bk) gP' tr hc bP fun ctv h' tk hx hsz => ?_
    have J : Inv X pins σ H { s with heap := h', toks := tk } := I.kept hx
    have nF : H h'.objs.size = none := J.hok.fresh (Nat.le_refl _)
    have J2 := inv_lam (F := ⟨"<lambda>", X.env.qual ++ "<lambda>", ar, [], sc, cloFrom X.env.cells sc.names [], c'⟩) (e := bd) (t' := tk) (pm := (X.mg "__name__").getD .none) (ctv := ctv) J
    refine kk h'.objs.size c' _ _ J2 (fun b o q n => (upd_ne (ne_of_none q nF)).trans q) (fun b q => upd_none q) (hT.ext fun b o q => (upd_ne (ne_of_none q nF)).trans q) nF upd_same ?_ ?_
    · exact (upd_ne (ne_of_none gc nF)).trans gc
    · exact fun b o q _ => Heap.get?_push_of_some _ (hx b o q)
end
section
variable {prog : Program} {w : World} {A : Around} {E : Value → Shared → Prop} {s : Shared}
/-- sorted(r, key=f), r a range -/
theorem sorted_rng_key {r f : Addr} {n : Nat} {t u v : Tok} {k : Int → PyData} {R : Value → Shared → Prop} (hh : A.handled = none) (gr : IsRange s.heap r 0 n 1 t u v) (hn : n ≤ 2 ^ 20)
    (hal : PySem.W.AllAlike (((List.range n).map fun i => (0 : Int) + (i : Nat) * 1).map k)) (hk : PySem.W.Sortable (((List.range n).map fun i => (0 : Int) + (i : Nat) * 1).map k)) (hu : ∀ x, A.units + 2 + (k x).depth < cLine)
    (turn : ∀ (x : Int) (tx : Tok) (h : Heap) (tk : Nat), (∀ b o, s.heap.get? b = some o → h.get? b = some o) →
      wpAny (model prog w) A.in1.in1 (call (.ref f) [.int x tx]) (PySem.W.KeyPure (k x) { s with heap := h, toks := tk }) (fun _ _ => False) { s with heap := h, toks := tk })
    (fin : ∀ (g0 : Heap) (tk0 : Nat) (out : List Value) (c : Nat) (h' : Heap) (tk : Nat), (∀ b o, s.heap.get? b = some o → g0.get? b = some o) → (∀ b o, g0.get? b = some o → h'.get? b = some o) → h'.get? g0.objs.size = some (seqObj "list" (List.toArray out) c) →
      Vals ((((List.range n).map fun i => (0 : Int) + (i : Nat) * 1).mergeSort (PySem.W.dataLe false k)).map V.int) out → R (.ref g0.objs.size) { s with heap := h', toks := tk }) :
    wpAny (model prog w) A (call (.builtin "sorted") [.ref r] [(Str.ofString "key", .ref f)]) R E s := by
  refine PyProof.Rows.call_function_entry_kw PyProof.Rows.kind_sorted PyProof.Rows.plain_sorted PyProof.Rows.entry_sorted (PyProof.Rows.ksk_s1 _ _) ?_
  unfold Builtin.«sorted»
  refine wpAny_bind (m := checkCount "sorted" 1 1 _) (wpAny_pure ?_)
  have hz : sizeLine = 2 ^ 24 := sizeLine_eq
  have hsm : Builtin.Range.small 0 (n : Int) 1 = true := small_one (by omega) (by omega) (by omega) (by omega)
  have hrs : Builtin.Range.rangeSize 0 (n : Int) 1 = (n : Nat) := by rw [PyProof.Rows.rangeSize_nat]; omega
  refine wpAny_bind (collect_range (A := A.in1) (n := n) hh gr hsm hrs (by omega) fun h' tk acc hkp hi => ?_)
  have hlen : acc.toList.length = n := by rw [Array.length_toList]; exact hi.1
  refine wpAny_bind (wpAny_newList ?_ (by omega))
  have e : PySem.W.EachIs (fun v x => RelV (V.int x) v) acc.toList ((List.range n).map fun i => (0 : Int) + (i : Nat) * 1) := by
    have rv : Vals (((List.range acc.toList.length).map fun i : Nat => V.int ((0 : Int) + (i : Nat) * 1))) acc.toList := vals_of_get acc.toList _ fun j u hj => by
      obtain ⟨t, rfl⟩ := hi.2 j u (by rw [← hj, Array.getElem?_toList])
      exact ⟨t, rfl⟩
    rw [hlen] at rv
    have ee : (List.range n).map (fun i : Nat => V.int ((0 : Int) + (i : Nat) * 1)) = ((List.range n).map fun i => (0 : Int) + (i : Nat) * 1).map V.int := by rw [List.map_map]; rfl
    rw [ee] at rv
    have conv : ∀ {xs : List Int} {us : List Value}, Vals (xs.map V.int) us → PySem.W.EachIs (fun v x => RelV (V.int x) v) us xs := fun {xs us} h => by
      induction xs generalizing us with
      | nil => cases h; exact .nil
      | cons x xs ih =>
        cases h with
        | cons h1 h2 => exact .cons h1 (ih h2)
    exact conv rv
  have ga : (h'.push (seqObj "list" acc.toList.toArray 0)).get? h'.objs.size = some (seqObj "list" acc.toList.toArray 0) := Heap.get?_push_size _ rfl
  have old0 : ∀ {g : Heap}, PySem.W.KeepsBut h'.objs.size (h'.push (seqObj "list" acc.toList.toArray 0)) g → ∀ b o, h'.get? b = some o → g.get? b = some o := fun {g} kp b o q => kp b o (Nat.ne_of_lt (Heap.lt_size q)) (Heap.get?_push_of_some _ q)
  have old : ∀ {g : Heap}, PySem.W.KeepsBut h'.objs.size (h'.push (seqObj "list" acc.toList.toArray 0)) g → ∀ b o, s.heap.get? b = some o → g.get? b = some o := fun {g} kp b o q => old0 kp b o (hkp _ _ q)
  show wpAny _ _ _ _ _ { s with heap := h'.push (seqObj "list" acc.toList.toArray 0), toks := tk }
  refine wpAny_bind (wpAny_holding (PySem.W.list_sort_key_data (A := A.in1) (b := false) (s := { s with heap := h'.push (seqObj "list" acc.toList.toArray 0), toks := tk }) (R := fun v x => RelV (V.int x) v) (bs := (List.range n).map fun i => (0 : Int) + (i : Nat) * 1) k ga e hal hk (by rw [List.length_map, List.length_range]; omega) (fun x _ => hu x) (PyProof.Rows.ksk_l1 _ _) (PyProof.Rows.ksk_t1 _ _)
    (fun v x hv _ g tk2 kp => by
      obtain ⟨tx, rfl⟩ := hv
      exact turn x tx g tk2 (old kp)) fun out c g tk2 kp go _ eo => ?_))
  have back : ∀ {xs : List Int} {us : List Value}, PySem.W.EachIs (fun v x => RelV (V.int x) v) us xs → Vals (xs.map V.int) us := fun {xs us} h => by
    induction h with
    | nil => exact .nil
    | cons h1 _ ih => exact .cons h1 ih
  exact wpAny_pure ⟨_, rfl, fin h' tk out c g tk2 hkp (old0 kp) go (back eo)⟩
end
end L2
namespace L2
open PySem PySem.Spec PyProof.Rows LamX NdefX
/-- suffixes of unlike places are unlike -/
def sufK (z : Str) (i : Int) : PyData := .str (sufS z i)
/-- the places of z's suffixes in their order -/
def ordM (z : Str) : List Int := isort (dle (sufK z)) ((List.range z.length).map fun i => (0 : Int) + (i : Nat) * 1)
theorem suf_len (z : Str) (i : Nat) (h : i ≤ z.length) : (sufS z (i : Int)).length = z.length - i := by
  unfold sufS cutS HT.sIx
  show (⟨_⟩ : Str).cps.size = _
  simp only [List.size_toArray, List.length_take, List.length_drop, Array.length_toList]
  show min (z.cps.size - (if (i : Int) < 0 then _ else min (i : Int).toNat z.cps.size)) (z.cps.size - (if (i : Int) < 0 then _ else min (i : Int).toNat z.cps.size)) = z.cps.size - i
  rw [if_neg (by omega), show ((i : Int)).toNat = i by omega]
  have h2 : i ≤ z.cps.size := h
  omega
theorem ord_sorted (z : Str) : ((List.range z.length).map fun i => (0 : Int) + (i : Nat) * 1).mergeSort (PySem.W.dataLe false (sufK z)) = ordM z := by
  refine msort_isort (dle (sufK z)) (dle_trans _) (dle_total _) _ fun x hx y hy a b => ?_
  obtain ⟨i, hi, rfl⟩ := List.mem_map.mp hx
  obtain ⟨j, hj, rfl⟩ := List.mem_map.mp hy
  have hi := List.mem_range.mp hi
  have hj := List.mem_range.mp hj
  have e := dle_anti a b
  simp only [sufK, PySem.W.keyToks, List.cons.injEq, Sum.inr.injEq, and_true] at e
  have e2 := congrArg List.length e
  rw [Array.length_toList, Array.length_toList] at e2
  have l1 := suf_len z i (by omega)
  have l2 := suf_len z j (by omega)
  have e3 : (sufS z ((0 : Int) + (i : Nat) * 1)).length = (sufS z ((0 : Int) + (j : Nat) * 1)).length := e2
  rw [show ((0 : Int) + (i : Nat) * 1) = ((i : Nat) : Int) by omega, show ((0 : Int) + (j : Nat) * 1) = ((j : Nat) : Int) by omega, l1, l2] at e3
  omega
section
variable {X : Cx}
def tSufSort (T : List (Addr × Str)) (j : Nat) (te : St → Hp → (Int → Int → Hp → Prop) → Prop) : TE := fun σ H Q => te σ H fun a b H1 => ∃ z : Str, σ[j]? = some (some (.str z)) ∧ a = 0 ∧ b = ((z.length : Nat) : Int) ∧ z.length ≤ 1000 ∧ Tabs T H1 ∧
  ∀ (p : Addr) (H2 : Hp), ExtN H1 H2 → (∀ b, H2 b = none → H1 b = none) → Tabs T H2 → H2 p = some (.lst ((ordM z).map V.int)) → H1 p = none → Q (.ref p) H2
/-- sorted(range(..), key=lambda i: text[i:]) -/
theorem pe_sortSuf {T : List (Addr × Str)} {cc P : Addr} {ar : Arguments} {sc : Scope} {pl tx : Str} {e : Expr} {te : St → Hp → (Int → Int → Hp → Prop) → Prop} {j k : Nat} {p pos kpos lpos p1 p2 p3 p4 : Pos} (hc : X.calm = true) (hr : Room (k + 1) X.A)
    (hg : Gl X "sorted") (hm : X.mg "sorted" = none) (he : PRg X e te) (TB : TabB X.base X.mg cc P) (hcode : X.env.code = .ref cc) (hmT : (P, X.env.qual ++ "<lambda>") ∈ T) (hu : ∀ p ∈ T, p.1 = P → p.2 = X.env.qual ++ "<lambda>")
    (KS : KeyScope sc pl tx) (hdef : defaultsOf ar X.env = ([], [])) (hfree : ∀ y ∈ sc.names, y.2 = .free → X.env.scope.names.lookup y.1 = some .cell ∨ X.env.scope.names.lookup y.1 = some .free)
    (hbind : ∀ (q : Str) (cl : List (Str × Addr)) (pm cv ctv u : Value), bindArgs (PySem.W.kla_fn "<lambda>" q ar (.Subscript (.Name tx p1) (.Slice (some (.Name pl p2)) none none p3) p4) sc cl pm cv ctv) ⟨[u], []⟩ = pure [(pl, u)])
    (hN : X.N[j]? = some tx) (na : starEach [e] X.env = (false, eval e X.env) :: starEach [] X.env := by rfl)
    (d1 : (tx == ("__debug__" : Str)) = false := by decide) (d2 : (pl == ("__debug__" : Str)) = false := by decide) (d3 : (tx == ("__classdict__" : Str)) = false := by decide)
    (hb1 : backTo pos (starEach [e] X.env) = (false, eval e X.env) :: backTo pos (starEach [] X.env) := by rfl) (hb2 : (backTo pos (starEach [e] X.env)).any (·.1) = false := by rfl)
    (hb3 : ∀ l : Expr, (backToKw pos (keywordEach [⟨some "key", l, kpos⟩] X.env)).all (·.1.isSome) = true := by intro _; rfl) (hb4 : ∀ l : Expr, (backToKw pos (keywordEach [⟨some "key", l, kpos⟩] X.env)).any (·.1.isNone) = false := by intro _; rfl)
    (hb5 : ∀ l : Expr, (backToKw pos (keywordEach [⟨some "key", l, kpos⟩] X.env)).filterMap (·.1) = [("key" : Str)] := by intro _; rfl) :
    PE X (.Call (.Name "sorted" p) [e] [⟨some "key", .Lambda ar (.Subscript (.Name tx p1) (.Slice (some (.Name pl p2)) none none p3) p4) sc lpos, kpos⟩] pos) (tSufSort T j te) := by
  refine ⟨fun pins s σ H Q I h => ?_⟩
  refine wpAny_Call_Name_kw (ld_blt I hg hm PyProof.Rows.boot_sorted ?_)
  refine PyProof.Rows.callWith_kw (args_cons (thn (he pins s σ H _ I h) fun x s1 ⟨r, a, b, t, u, v, H1, ex, gr, I1, q1⟩ => args_nil ?_) na) hb1 hb2 (hb3 _) (hb4 _)
  obtain ⟨z, hσ, rfl, rfl, hz, hT, q⟩ := q1
  subst ex
  rw [hb5]
  show wpAny _ _ (evalAll ((do let v ← eval (.Lambda ar (.Subscript (.Name tx p1) (.Slice (some (.Name pl p2)) none none p3) p4) sc lpos) X.env; standAt pos; pure v) :: [])) _ _ s1
  have hcells : ∀ y ∈ sc.names, y.2 = .free → ∃ c, X.env.cells.lookup y.1 = some c := fun y hy e => (hfree y hy e).elim (fun z => I.ok.has _ (.inl z)) fun z => I.ok.has _ (.inr z)
  refine wpAny_evalAll_cons (wpAny_bind (lam_make3 I1 TB hcode hmT hu hT hdef hcells fun f c' H2 s2 I2 ex2 mn T2 nf gf gc kps => wpAny_bind (wpAny_standAt (wpAny_pure (wpAny_pure ?_)))))
  have gr2 : IsRange s2.heap r 0 ((z.length : Nat) : Int) 1 t u v := kps _ _ gr (by intro q; cases q)
  have hz1 : sizeLine = 2 ^ 24 := sizeLine_eq
  have hdep : ∀ x, (sufK z x).depth = 0 := fun x => rfl
  show wpAny _ _ (call (.builtin "sorted") [.ref r] [(Str.ofString "key", .ref f)]) _ _ s2
  refine sorted_rng_key (n := z.length) (k := sufK z) (I2.ok.hd hc) gr2 (by omega) ?_ ?_ (fun x => by rw [hdep]; have := hr.units; omega) ?_ ?_
  · intro d hd d' hd'
    obtain ⟨x, _, rfl⟩ := List.mem_map.mp hd
    obtain ⟨y, _, rfl⟩ := List.mem_map.mp hd'
    rfl
  · refine .inr fun d hd => ?_
    obtain ⟨x, _, rfl⟩ := List.mem_map.mp hd
    exact ⟨fun z => (by cases z), fun xs z => (by cases z)⟩
  · intro x tx2 g tk kp
    have J : Inv X pins σ H2 { s2 with heap := g, toks := tk } := I2.kept kp
    obtain ⟨pm, ctv, gfo⟩ := (show ObjOk X.prog X.w H2 g f _ from J.hok f _ gf).1
    have cp : Caps X (cloFrom X.env.cells sc.names []) [tx] [j] := Caps.made J.ok hfree (fun y hy => by rw [List.mem_singleton.mp hy]; exact PySem.mem_of_lookup KS.cap) (by rw [List.map_cons, List.map_cons, hN]; rfl)
    have ca := cells_of J cp
    obtain ⟨c, hcl, hcv⟩ := ca.has 0 tx rfl
    obtain ⟨u0, ru, cell⟩ := hcv (.str z) (by rw [List.map_cons, slotAt_of hσ]; rfl)
    obtain ⟨tz, rfl⟩ := ru
    exact key_call (s := { s2 with heap := g, toks := tk }) KS hr.depth gfo (codeO_at J.hok gc) (fun u => hbind _ _ _ _ _ u) hcl cell (by omega) J.nolimit d1 d2 d3
  · intro g0 tk0 out c h' tk e1 e2 go rv
    have J0 : Inv X pins σ H2 { s2 with heap := g0, toks := tk0 } := I2.kept e1
    have nP := J0.hok.fresh (Nat.le_refl _)
    rw [ord_sorted] at rv
    have hlen : ((ordM z).map V.int).length ≤ sizeLine := by
      have := (isort_perm (dle (sufK z)) ((List.range z.length).map fun i => (0 : Int) + (i : Nat) * 1)).length_eq
      rw [List.length_map, List.length_range] at this
      rw [List.length_map]
      unfold ordM
      omega
    refine ⟨.ref g0.objs.size, upd H2 g0.objs.size (.lst ((ordM z).map V.int)), J0.laid (t' := tk) e2 (Nat.le_refl _) ⟨hlen, out, c, rv, go⟩, rfl, ?_⟩
    refine q _ _ (fun b o e n => ?_) (fun b e => mn b (upd_none e)) (T2.ext fun b o e => (upd_ne (ne_of_none e nP)).trans e) upd_same (mn _ nP)
    exact (upd_ne (ne_of_none (ex2 b o e n) nP)).trans (ex2 b o e n)
end
end L2

set_option Elab.async false
set_option linter.all false
set_option maxRecDepth 100000
set_option maxHeartbeats 4000000
/-! OrdMath: the order of the suffixes by sorting and by counting. -/
namespace L2
open PySem
/-- suffixes compared sign by sign, from the k-th on -/
def lessA (cs : List Nat) (i j : Nat) : Nat → Nat → Bool
  | _, 0 => decide (j < i)
  | k, f + 1 => if cs.length ≤ i + k then decide (j < i) else if cs.length ≤ j + k then decide (j < i) else if cs.getD (i + k) 0 = cs.getD (j + k) 0 then lessA cs i j (k + 1) f else decide (cs.getD (i + k) 0 < cs.getD (j + k) 0)
def lessM (z : Str) (i j : Nat) : Bool := lessA z.cps.toList i j 0 z.cps.toList.length
def plF (z : Str) : Nat → List Int
  | 0 => List.replicate (z.cps.toList.length + 1) 0
  | i + 1 => (plF z i).set ((List.range (z.cps.toList.length + 1)).filter fun o => !decide (o = i) && lessM z o i).length (i : Nat)
def ordL (z : Str) : List Int := plF z (z.cps.toList.length + 1)
theorem plF_len (z : Str) : ∀ i, (plF z i).length = z.cps.toList.length + 1
  | 0 => by rw [plF, List.length_replicate]
  | i + 1 => by rw [plF, List.length_set, plF_len z i]
theorem drop_at {cs : List Nat} {i : Nat} (h : i < cs.length) : cs.drop i = cs.getD i 0 :: cs.drop (i + 1) := by
  rw [List.drop_eq_getElem_cons h, List.getD_eq_getElem?_getD, List.getElem?_eq_getElem h]
  rfl
theorem drop_inj {cs : List Nat} {i j : Nat} (hi : i ≤ cs.length) (hj : j ≤ cs.length) (h : cs.drop i = cs.drop j) : i = j := by
  have := congrArg List.length h
  rw [List.length_drop, List.length_drop] at this
  omega
theorem lt_cons {c d : Nat} {r s : List Nat} : (c :: r < d :: s) ↔ c < d ∨ (c = d ∧ r < s) := by
  rw [List.cons_lt_cons_iff]
/-- sign by sign is in the order of lists -/
theorem lessA_drop {cs : List Nat} {i j : Nat} (hij : i ≠ j) : ∀ (f k : Nat), k + f = cs.length → i + k ≤ cs.length → j + k ≤ cs.length → lessA cs i j k f = decide (cs.drop (i + k) < cs.drop (j + k))
  | 0, k, h, hi, hj => by omega
  | f + 1, k, h, hi, hj => by
    unfold lessA
    by_cases h1 : cs.length ≤ i + k
    · rw [if_pos h1, List.drop_of_length_le h1]
      by_cases hj2 : j + k < cs.length
      · rw [drop_at hj2, decide_eq_true (show j < i by omega), decide_eq_true (List.nil_lt_cons _ _)]
      · omega
    · rw [if_neg h1]
      by_cases h2 : cs.length ≤ j + k
      · rw [if_pos h2, List.drop_of_length_le h2, decide_eq_false (show ¬ j < i by omega), decide_eq_false (List.not_lt_nil _)]
      · rw [if_neg h2, drop_at (show i + k < cs.length by omega), drop_at (show j + k < cs.length by omega)]
        by_cases h3 : cs.getD (i + k) 0 = cs.getD (j + k) 0
        · rw [if_pos h3, lessA_drop hij f (k + 1) (by omega) (by omega) (by omega)]
          rw [show i + (k + 1) = i + k + 1 by omega, show j + (k + 1) = j + k + 1 by omega, h3]
          congr 1
          exact propext ⟨fun h => lt_cons.mpr (.inr ⟨rfl, h⟩), fun h => (lt_cons.mp h).elim (fun z => absurd z (Nat.lt_irrefl _)) (·.2)⟩
        · rw [if_neg h3]
          congr 1
          exact propext ⟨fun h => lt_cons.mpr (.inl h), fun h => (lt_cons.mp h).elim id fun z => absurd z.1 h3⟩
theorem lessM_drop {z : Str} {i j : Nat} (hij : i ≠ j) (hi : i ≤ z.cps.toList.length) (hj : j ≤ z.cps.toList.length) : lessM z i j = decide (z.cps.toList.drop i < z.cps.toList.drop j) := lessA_drop hij _ 0 (Nat.zero_add _) hi hj
/-- the order of suffixes of a list of signs -/
structure SufOrd (cs : List Nat) (l : List Nat) : Prop where
  perm : l.Perm (List.range (cs.length + 1))
  inc : l.Pairwise fun i j => cs.drop i < cs.drop j
theorem SufOrd.bd {cs l : List Nat} (h : SufOrd cs l) {i : Nat} (hi : i ∈ l) : i ≤ cs.length := by
  have := List.mem_range.mp (h.perm.mem_iff.mp hi)
  omega
theorem SufOrd.len {cs l : List Nat} (h : SufOrd cs l) : l.length = cs.length + 1 := by rw [h.perm.length_eq, List.length_range]
/-- just one -/
theorem SufOrd.one {cs l m : List Nat} (h : SufOrd cs l) (g : SufOrd cs m) : l = m := by
  refine sorted_uniq (fun i j => !decide (cs.drop j < cs.drop i)) (fun i hi j hj h1 h2 => ?_) (h.perm.trans g.perm.symm) (h.inc.imp fun {i j} q => ?_) (g.inc.imp fun {i j} q => ?_)
  · rw [Bool.not_eq_true', decide_eq_false_iff_not] at h1 h2
    exact drop_inj (h.bd hi) (h.bd hj) (List.le_antisymm h1 h2)
  · rw [Bool.not_eq_true', decide_eq_false_iff_not]
    exact fun w => List.lt_irrefl _ (List.lt_trans q w)
  · rw [Bool.not_eq_true', decide_eq_false_iff_not]
    exact fun w => List.lt_irrefl _ (List.lt_trans q w)
/-- so many are less than the one at k -/
theorem SufOrd.count {z : Str} {l : List Nat} (h : SufOrd z.cps.toList l) {k m : Nat} (hk : l[k]? = some m) : ((List.range (z.cps.toList.length + 1)).filter fun o => !decide (o = m) && lessM z o m).length = k := by
  have hkl := (List.getElem?_eq_some_iff.mp hk).1
  have hm := h.bd (List.mem_of_getElem? hk)
  have e1 : ((List.range (z.cps.toList.length + 1)).filter fun o => !decide (o = m) && lessM z o m).length = (l.filter fun o => decide (z.cps.toList.drop o < z.cps.toList.drop m)).length := by
    have e2 : ((List.range (z.cps.toList.length + 1)).filter fun o => !decide (o = m) && lessM z o m) = (List.range (z.cps.toList.length + 1)).filter fun o => decide (z.cps.toList.drop o < z.cps.toList.drop m) := by
      refine List.filter_congr fun o ho => ?_
      have ho := List.mem_range.mp ho
      by_cases hom : o = m
      · subst hom
        rw [decide_eq_true rfl, decide_eq_false (List.lt_irrefl _)]
        rfl
      · rw [decide_eq_false hom, lessM_drop hom (by omega) hm]
        rfl
    rw [e2]
    exact ((h.perm.filter _).length_eq).symm
  rw [e1]
  have e3 : l = l.take k ++ m :: l.drop (k + 1) := by
    have : l.drop k = m :: l.drop (k + 1) := by
      rw [List.drop_eq_getElem_cons hkl]
      congr 1
      exact (List.getElem?_eq_some_iff.mp hk).2
    rw [← this, List.take_append_drop]
  have hi := h.inc
  rw [e3] at hi
  obtain ⟨_, h2, h3⟩ := List.pairwise_append.mp hi
  obtain ⟨h4, _⟩ := List.pairwise_cons.mp h2
  rw [e3, List.filter_append, List.filter_eq_self.mpr fun o ho => decide_eq_true (h3 o ho m List.mem_cons_self), List.filter_cons_of_neg (by rw [decide_eq_true_eq]; exact List.lt_irrefl _),
    List.filter_eq_nil_iff.mpr fun o ho => by rw [decide_eq_true_eq]; exact fun w => List.lt_irrefl _ (List.lt_trans w (h4 o ho)), List.append_nil, List.length_take]
  omega
/-- what is put at its place by counting is the order -/
theorem SufOrd.places {z : Str} {l : List Nat} (h : SufOrd z.cps.toList l) : ordL z = l.map fun i => ((i : Nat) : Int) := by
  have gen : ∀ m : Nat, m ≤ z.cps.toList.length + 1 → ∀ k i : Nat, l[k]? = some i → i < m → (plF z m)[k]? = some ((i : Nat) : Int) := by
    intro m
    induction m with
    | zero => intro _ k i _ hi; omega
    | succ m ih =>
      intro hm k i hk hi
      have hml : m ∈ l := h.perm.mem_iff.mpr (List.mem_range.mpr (by omega))
      obtain ⟨q, hq⟩ := List.mem_iff_getElem?.mp hml
      have hql := (List.getElem?_eq_some_iff.mp hq).1
      have hlen := h.len
      rw [plF, h.count hq, List.getElem?_set]
      by_cases hkq : q = k
      · subst hkq
        rw [hq] at hk
        injection hk with hk
        rw [if_pos rfl, if_pos (by rw [plF_len]; omega), hk]
      · rw [if_neg hkq]
        refine ih (by omega) k i hk ?_
        by_cases him : i = m
        · subst him
          have hkl := (List.getElem?_eq_some_iff.mp hk).1
          have nd : l.Nodup := h.perm.nodup_iff.mpr List.nodup_range
          have ne := List.pairwise_iff_getElem.mp nd
          have eq1 := (List.getElem?_eq_some_iff.mp hq).2
          have eq2 := (List.getElem?_eq_some_iff.mp hk).2
          rcases Nat.lt_or_gt_of_ne hkq with w | w
          · exact absurd (eq1.trans eq2.symm) (ne q k hql hkl w)
          · exact absurd (eq2.trans eq1.symm) (ne k q hkl hql w)
        · omega
  apply List.ext_getElem?
  intro k
  rw [List.getElem?_map]
  cases hk : l[k]? with
  | none =>
    have : l.length ≤ k := List.getElem?_eq_none_iff.mp hk
    rw [h.len] at this
    exact List.getElem?_eq_none_iff.mpr (by rw [ordL, plF_len]; exact this)
  | some i => exact gen _ (Nat.le_refl _) k i hk (by have := h.bd (List.mem_of_getElem? hk); omega)
/-! the same by sorting -/
theorem ins_map {α β : Type} (f : α → β) (le : β → β → Bool) (le' : α → α → Bool) (a : α) : ∀ l : List α, (∀ b ∈ l, le (f a) (f b) = le' a b) → ins le (f a) (l.map f) = (ins le' a l).map f
  | [], _ => rfl
  | b :: r, h => by
    rw [List.map_cons, ins, ins, h b List.mem_cons_self]
    split
    · rfl
    · rw [ins_map f le le' a r fun c hc => h c (List.mem_cons_of_mem _ hc)]
      rfl
theorem isort_map {α β : Type} (f : α → β) (le : β → β → Bool) (le' : α → α → Bool) : ∀ l : List α, (∀ a ∈ l, ∀ b ∈ l, le (f a) (f b) = le' a b) → isort le (l.map f) = (isort le' l).map f
  | [], _ => rfl
  | a :: r, h => by
    rw [List.map_cons, isort, isort, isort_map f le le' r fun c hc d hd => h c (List.mem_cons_of_mem _ hc) d (List.mem_cons_of_mem _ hd)]
    exact ins_map f le le' a _ fun b hb => h a List.mem_cons_self b (List.mem_cons_of_mem _ ((isort_perm le' r).mem_iff.mp hb))
theorem suf_cps (z : Str) (i : Nat) (h : i ≤ z.length) : (sufS z (i : Int)).cps.toList = z.cps.toList.drop i := by
  unfold sufS
  show ((z.cps.toList.drop (HT.sIx z.length 0 (some (i : Int)))).take (HT.sIx z.length z.length none - HT.sIx z.length 0 (some (i : Int)))) = _
  rw [HT.sIx_none, HT.sIx_nat, Nat.min_eq_left h]
  have e : z.length = z.cps.toList.length := Array.length_toList.symm
  rw [e, List.take_of_length_le (by rw [List.length_drop]; omega)]
theorem dle_suf (z : Str) (i j : Nat) (hi : i ≤ z.length) (hj : j ≤ z.length) : dle (sufK z) (i : Int) (j : Int) = !decide (z.cps.toList.drop j < z.cps.toList.drop i) := by
  unfold dle PySem.W.dataLe
  show (!(PyProof.Rows.lexLt PyProof.Rows.itemOrd (PySem.W.keyToks (sufK z (j : Int))) (PySem.W.keyToks (sufK z (i : Int))))) = _
  have e : ∀ k : Nat, k ≤ z.length → PySem.W.keyToks (sufK z (k : Int)) = [Sum.inr (z.cps.toList.drop k)] := fun k hk => by
    simp only [sufK, PySem.W.keyToks, suf_cps z k hk]
  rw [e i hi, e j hj]
  congr 1
  show PyProof.Rows.lexLt PyProof.Rows.itemOrd [Sum.inr (z.cps.toList.drop j)] [Sum.inr (z.cps.toList.drop i)] = _
  have hb : PyProof.Rows.itemOrd.blt (Sum.inr (z.cps.toList.drop j)) (Sum.inr (z.cps.toList.drop i)) = decide (z.cps.toList.drop j < z.cps.toList.drop i) := rfl
  cases hd : decide (z.cps.toList.drop j < z.cps.toList.drop i) with
  | true => exact PyProof.Rows.lex_true.mpr (.inl (hb.trans hd))
  | false => exact PyProof.Rows.lex_false.mpr ⟨hb.trans hd, .inr rfl⟩
/-- the places, by sorting -/
def ordN (z : Str) : List Nat := isort (fun i j => !decide (z.cps.toList.drop j < z.cps.toList.drop i)) (List.range z.length)
theorem ordM_ordN (z : Str) : ordM z = (ordN z).map fun i => ((i : Nat) : Int) := by
  unfold ordM ordN
  have e : ((List.range z.length).map fun i => (0 : Int) + (i : Nat) * 1) = (List.range z.length).map fun k : Nat => (k : Int) := List.map_congr_left fun i _ => by omega
  rw [e]
  exact isort_map _ _ _ _ fun a ha b hb => dle_suf z a b (by have := List.mem_range.mp ha; omega) (by have := List.mem_range.mp hb; omega)
theorem ordN_ok (z : Str) : SufOrd z.cps.toList (z.length :: ordN z) := by
  have e : z.length = z.cps.toList.length := Array.length_toList.symm
  have hp : (ordN z).Perm (List.range z.length) := isort_perm _ _
  refine ⟨?_, ?_⟩
  · rw [← e, List.range_succ]
    exact (hp.cons _).trans (List.perm_append_singleton _ _).symm
  · have hs := isort_sorted (fun i j => !decide (z.cps.toList.drop j < z.cps.toList.drop i)) (fun x y w h1 h2 => by
      rw [Bool.not_eq_true', decide_eq_false_iff_not] at h1 h2 ⊢
      exact List.le_trans h1 h2) (fun x y => by
      rw [Bool.or_eq_true, Bool.not_eq_true', Bool.not_eq_true', decide_eq_false_iff_not, decide_eq_false_iff_not]
      exact List.le_total _ _) (List.range z.length)
    have nd : (ordN z).Nodup := hp.nodup_iff.mpr List.nodup_range
    have bd : ∀ i ∈ ordN z, i < z.length := fun i hi => List.mem_range.mp (hp.mem_iff.mp hi)
    refine List.pairwise_cons.mpr ⟨fun i hi => ?_, ?_⟩
    · rw [e, List.drop_length, drop_at (by rw [← e]; exact bd i hi)]
      exact List.nil_lt_cons _ _
    · have both := hs.and nd
      refine List.Pairwise.imp_of_mem (fun {i j} hi hj ⟨q1, q2⟩ => ?_) both
      rw [Bool.not_eq_true', decide_eq_false_iff_not] at q1
      refine Classical.byContradiction fun w => q2 (drop_inj (by have := bd i hi; omega) (by have := bd j hj; omega) (List.le_antisymm q1 w))
/-- by counting as by sorting -/
theorem ord_eq (z : Str) : ordL z = ((z.length : Nat) : Int) :: ordM z := by
  rw [(ordN_ok z).places, ordM_ordN]
  rfl
/-- what is sorted is the order -/
theorem ord_is {z : Str} {l : List Nat} (h : SufOrd z.cps.toList l) : ((z.length : Nat) : Int) :: ordM z = l.map fun i => ((i : Nat) : Int) := by
  rw [← ord_eq, h.places]
end L2

set_option Elab.async false
set_option linter.all false
set_option maxRecDepth 100000
set_option maxHeartbeats 4000000
/-! DleKit: the order of data by two items. -/
namespace L2
open PySem PySem.Spec PyProof.Rows
theorem toks_skey (cs : List Nat) (i : Nat) : PySem.W.keyToks (skey cs i) = [.inl 1, .inr [cs.getD i 0], .inl 1, .inl (i : Int), .inl 0] := by
  simp [skey, PySem.W.keyToks, PySem.W.keyToksAll]
theorem dle_not {β : Type} (k : β → PyData) (x y : β) : dle k x y = !(PyProof.Rows.lexLt itemOrd (PySem.W.keyToks (k y)) (PySem.W.keyToks (k x))) := rfl
theorem blt_r (x y : List Nat) : itemOrd.blt (.inr x) (.inr y) = decide (x < y) := rfl
theorem blt_l (x y : Int) : itemOrd.blt (.inl x) (.inl y) = decide (x < y) := rfl
/-- by the first, then by the second -/
theorem lex_two (a b c d : Sum Int (List Nat)) : PyProof.Rows.lexLt itemOrd [.inl 1, a, .inl 1, b, .inl 0] [.inl 1, c, .inl 1, d, .inl 0] = false ↔ itemOrd.blt a c = false ∧ (itemOrd.blt c a = true ∨ itemOrd.blt b d = false) := by
  rw [lex_self, lex_false, lex_self, lex_false]
  have e : PyProof.Rows.lexLt itemOrd [Sum.inl 0] [Sum.inl 0] = false := lex_irrefl (O := itemOrd) _
  constructor
  · rintro ⟨h1, h2⟩
    exact ⟨h1, h2.imp id fun h => h.1⟩
  · rintro ⟨h1, h2⟩
    exact ⟨h1, h2.imp id fun h => ⟨h, .inr e⟩⟩
theorem dle_skey (cs : List Nat) (i j : Nat) : dle (skey cs) i j = true ↔ cs.getD i 0 < cs.getD j 0 ∨ (cs.getD i 0 = cs.getD j 0 ∧ i ≤ j) := by
  have one : ∀ x y : Nat, [x] < [y] ↔ x < y := fun x y => by
    rw [List.cons_lt_cons_iff]
    constructor
    · rintro (h | ⟨_, h⟩)
      · exact h
      · exact absurd h (List.lt_irrefl _)
    · exact .inl
  rw [dle_not, Bool.not_eq_true', toks_skey, toks_skey, lex_two, blt_r, blt_r, blt_l, decide_eq_false_iff_not, decide_eq_true_eq, decide_eq_false_iff_not, one, one]
  omega
end L2

set_option Elab.async false
set_option linter.all false
set_option maxRecDepth 100000
set_option maxHeartbeats 4000000
/-! BwtMath: the row of a text by the order of its suffixes, and the steps back. -/
namespace Bwt
open PySem L2
def rk (l : List Nat) (p : Nat) : Nat := l.idxOf p
def sg0 (t : List Nat) (p : Nat) : Nat := (36 :: t).getD p 0
def rowL (t l : List Nat) : List Nat := l.map (sg0 t)
variable {t l : List Nat}
theorem nodup (h : SufOrd t l) : l.Nodup := h.perm.nodup_iff.mpr List.nodup_range
theorem mem (h : SufOrd t l) {p : Nat} : p ∈ l ↔ p ≤ t.length := by
  rw [h.perm.mem_iff, List.mem_range]
  omega
theorem rk_lt (h : SufOrd t l) {p : Nat} (hp : p ≤ t.length) : rk l p < t.length + 1 := by
  rw [← h.len]
  exact List.idxOf_lt_length_iff.mpr ((mem h).mpr hp)
theorem at_rk (h : SufOrd t l) {p : Nat} (hp : p ≤ t.length) : l[rk l p]? = some p := by
  have := (mem h).mpr hp
  have hl : rk l p < l.length := List.idxOf_lt_length_iff.mpr this
  rw [List.getElem?_eq_getElem hl]
  exact congrArg some (List.getElem_idxOf hl)
theorem rk_at (h : SufOrd t l) {i p : Nat} (e : l[i]? = some p) : rk l p = i := by
  have hp : p ∈ l := List.mem_of_getElem? e
  have h1 := at_rk h ((mem h).mp hp)
  obtain ⟨a1, a2⟩ := List.getElem?_eq_some_iff.mp e
  obtain ⟨b1, b2⟩ := List.getElem?_eq_some_iff.mp h1
  have nd := nodup h
  exact (List.getElem_inj (xs := l) (h₀ := b1) (h₁ := a1) nd).mp (b2.trans a2.symm)
theorem drop_lt (h : SufOrd t l) {i j a b : Nat} (hij : i < j) (ha : l[i]? = some a) (hb : l[j]? = some b) : t.drop a < t.drop b := by
  obtain ⟨a1, a2⟩ := List.getElem?_eq_some_iff.mp ha
  obtain ⟨b1, b2⟩ := List.getElem?_eq_some_iff.mp hb
  have := List.pairwise_iff_getElem.mp h.inc i j a1 b1 hij
  rwa [a2, b2] at this
theorem rk_mono (h : SufOrd t l) {a b : Nat} (ha : a ≤ t.length) (hb : b ≤ t.length) (hlt : t.drop a < t.drop b) : rk l a < rk l b := by
  rcases Nat.lt_trichotomy (rk l a) (rk l b) with z | z | z
  · exact z
  · exfalso
    have h1 := at_rk h ha
    rw [z, at_rk h hb] at h1
    cases h1
    exact List.lt_irrefl _ hlt
  · exact absurd (List.lt_trans hlt (drop_lt h z (at_rk h hb) (at_rk h ha))) (List.lt_irrefl _)
theorem rk_end (h : SufOrd t l) : rk l t.length = 0 := by
  have hl : 0 < l.length := by rw [h.len]; omega
  have e : l[0]? = some l[0] := List.getElem?_eq_getElem hl
  have hp : l[0] ≤ t.length := (mem h).mp (List.getElem_mem hl)
  by_cases z : l[0] = t.length
  · rw [z] at e
    exact rk_at h e
  · exfalso
    have h1 := rk_at h e
    have h2 : t.drop t.length < t.drop l[0] := by
      rw [List.drop_length, List.drop_eq_getElem_cons (show l[0] < t.length by omega)]
      exact List.nil_lt_cons _ _
    have := rk_mono h (Nat.le_refl _) hp h2
    omega
theorem row_len (h : SufOrd t l) : (rowL t l).length = t.length + 1 := by
  unfold rowL
  rw [List.length_map, h.len]
theorem row_rk (h : SufOrd t l) {p : Nat} (hp : p ≤ t.length) : (rowL t l).getD (rk l p) 0 = sg0 t p := by
  unfold rowL
  rw [List.getD_eq_getElem?_getD, List.getElem?_map, at_rk h hp]
  rfl
theorem sg0_succ (s : Nat) : sg0 t (s + 1) = t.getD s 0 := by
  unfold sg0
  simp
theorem sg0_zero : sg0 t 0 = 36 := rfl
/-- the ranks of the places, one on -/
def ord0 (l : List Nat) : List Nat := rk l 0 :: (l.drop 1).map fun s => rk l (s + 1)
theorem rest_perm (h : SufOrd t l) : (l.drop 1).Perm (List.range t.length) := by
  have e0 := at_rk h (Nat.le_refl t.length)
  rw [rk_end h] at e0
  have el : l = t.length :: l.drop 1 := by
    cases l with
    | nil => simp at e0
    | cons x r =>
      have : x = t.length := by simpa using e0
      rw [this]
      rfl
  have hp := h.perm
  rw [el, List.range_succ] at hp
  exact List.Perm.cons_inv (hp.trans List.perm_append_comm)
theorem ord0_perm (h : SufOrd t l) : (ord0 l).Perm (List.range (t.length + 1)) := by
  have e1 : ord0 l = (0 :: (l.drop 1).map (· + 1)).map (rk l) := by
    unfold ord0
    rw [List.map_cons, List.map_map]
    rfl
  have e2 : (0 :: (l.drop 1).map (· + 1)).Perm l := by
    refine List.Perm.trans ?_ h.perm.symm
    rw [List.range_succ_eq_map]
    exact List.Perm.cons 0 ((rest_perm h).map _)
  have e3 : l.map (rk l) = List.range (t.length + 1) := by
    apply List.ext_getElem?
    intro i
    by_cases hi : i < l.length
    · rw [List.getElem?_map, List.getElem?_eq_getElem hi, List.getElem?_range (by rw [← h.len]; exact hi)]
      exact congrArg some (rk_at h (List.getElem?_eq_getElem hi))
    · rw [List.getElem?_eq_none (by rw [List.length_map]; omega), List.getElem?_eq_none (by rw [List.length_range, ← h.len]; omega)]
  rw [e1, ← e3]
  exact e2.map _
theorem ord_row (h : SufOrd t l) (big : ∀ c ∈ t, 36 < c) : ordI (rowL t l) = ord0 l := by
  have gD : ∀ {s}, s < t.length → 36 < t.getD s 0 := fun {s} hs => by
    rw [List.getD_eq_getElem?_getD, List.getElem?_eq_getElem hs]
    exact big _ (List.getElem_mem hs)
  unfold ordI
  rw [row_len h]
  refine sorted_uniq (dle (skey (rowL t l))) (fun x _ y _ h1 h2 => ?_) ((isort_perm _ _).trans (ord0_perm h).symm) (isort_sorted _ (dle_trans _) (dle_total _) _) ?_
  · rw [dle_skey] at h1 h2
    omega
  · have bd : ∀ s ∈ l.drop 1, s < t.length := fun s hs => List.mem_range.mp ((rest_perm h).mem_iff.mp hs)
    unfold ord0
    refine List.Pairwise.cons (fun y hy => ?_) ?_
    · obtain ⟨s, hs, rfl⟩ := List.mem_map.mp hy
      have hs := bd s hs
      rw [dle_skey, row_rk h (Nat.zero_le _), row_rk h (show s + 1 ≤ t.length from hs), sg0_succ, sg0_zero]
      exact .inl (gD hs)
    · have hinc : (l.drop 1).Pairwise fun i j => t.drop i < t.drop j := h.inc.sublist (List.drop_sublist 1 l)
      refine List.Pairwise.map (R := fun i j => t.drop i < t.drop j ∧ i < t.length ∧ j < t.length) _ (fun x y hxy => ?_) (hinc.imp_of_mem fun hx hy e => ⟨e, bd _ hx, bd _ hy⟩)
      obtain ⟨e, hx, hy⟩ := hxy
      rw [dle_skey, row_rk h (show x + 1 ≤ t.length from hx), row_rk h (show y + 1 ≤ t.length from hy), sg0_succ, sg0_succ]
      rw [drop_at hx, drop_at hy, lt_cons] at e
      rcases e with e | ⟨e1, e2⟩
      · exact .inl e
      · exact .inr ⟨e1, Nat.le_of_lt (rk_mono h hx hy e2)⟩
theorem row_count (h : SufOrd t l) (big : ∀ c ∈ t, 36 < c) : (rowL t l).count 36 = 1 := by
  have e : (rowL t l).Perm (36 :: t) := by
    unfold rowL
    refine (h.perm.map _).trans ?_
    have : (List.range (t.length + 1)).map (sg0 t) = 36 :: t := by
      apply List.ext_getElem?
      intro i
      by_cases hi : i < t.length + 1
      · rw [List.getElem?_map, List.getElem?_range hi]
        show some ((36 :: t).getD i 0) = _
        rw [List.getD_eq_getElem?_getD, List.getElem?_eq_getElem (by simpa using hi)]
        rfl
      · rw [List.getElem?_eq_none (by simp; omega), List.getElem?_eq_none (by simp; omega)]
    rw [this]
  rw [e.count_eq, List.count_cons]
  have : t.count 36 = 0 := List.count_eq_zero.mpr fun z => by
    have := big 36 z
    omega
  rw [this]
  rfl
end Bwt

set_option Elab.async false
set_option linter.all false
set_option maxRecDepth 100000
set_option maxHeartbeats 4000000
/-! LynMath: words that are less than their other turns, and the parts into which a text falls. -/
namespace Lyn
/-- how a word is less than another one -/
theorem lt_cases {a b : List Nat} (h : a < b) : (∃ y t, b = a ++ y :: t) ∨ ∃ p x y s t, a = p ++ x :: s ∧ b = p ++ y :: t ∧ x < y := by
  induction a generalizing b with
  | nil =>
    cases b with
    | nil => exact absurd h (List.lt_irrefl [])
    | cons y t => exact .inl ⟨y, t, rfl⟩
  | cons c a ih =>
    cases b with
    | nil => exact absurd h (List.not_lt_nil _)
    | cons d b =>
      rcases List.cons_lt_cons_iff.mp h with g | ⟨rfl, g⟩
      · exact .inr ⟨[], c, d, a, b, rfl, rfl, g⟩
      · rcases ih g with ⟨y, t, rfl⟩ | ⟨p, x, y, s, t, rfl, rfl, hxy⟩
        · exact .inl ⟨y, t, rfl⟩
        · exact .inr ⟨c :: p, x, y, s, t, rfl, rfl, hxy⟩
theorem app_lt (p : List Nat) {a b : List Nat} : p ++ a < p ++ b ↔ a < b := by
  induction p with
  | nil => exact Iff.rfl
  | cons c p ih =>
    rw [List.cons_append, List.cons_append, List.cons_lt_cons_iff]
    constructor
    · rintro (h | ⟨_, h⟩)
      · exact absurd h (Nat.lt_irrefl c)
      · exact ih.mp h
    · exact fun h => .inr ⟨rfl, ih.mpr h⟩
theorem lt_dif {p s t : List Nat} {x y : Nat} (h : x < y) : p ++ x :: s < p ++ y :: t := (app_lt p).mpr (List.cons_lt_cons_iff.mpr (.inl h))
theorem lt_pre {a t : List Nat} {y : Nat} : a < a ++ y :: t := by
  have := (app_lt a (a := []) (b := y :: t)).mpr (List.nil_lt_cons y t)
  rwa [List.append_nil] at this
theorem trich (a b : List Nat) : a < b ∨ a = b ∨ b < a := by
  by_cases h1 : a < b
  · exact .inl h1
  · by_cases h2 : b < a
    · exact .inr (.inr h2)
    · exact .inr (.inl (List.le_antisymm (List.not_lt.mp h2) (List.not_lt.mp h1)))
theorem lt_asymm {a b : List Nat} (h : a < b) (g : b < a) : False := List.lt_irrefl a (List.lt_trans h g)
/-- of the same length, less at the front is less -/
theorem same_len {u y a b : List Nat} (hl : u.length = y.length) (h : u ++ a < y ++ b) : u < y ∨ u = y := by
  rcases trich u y with h1 | h1 | h1
  · exact .inl h1
  · exact .inr h1
  · rcases lt_cases h1 with ⟨c, t, e⟩ | ⟨p, x, z, s, t, rfl, rfl, hxz⟩
    · rw [e, List.length_append, List.length_cons] at hl
      omega
    · refine absurd (lt_dif (p := p) (s := s ++ b) (t := t ++ a) hxz) fun g => lt_asymm h ?_
      simpa using g
/-- less than all its proper ends -/
def L (w : List Nat) : Prop := w ≠ [] ∧ ∀ k, 0 < k → k < w.length → w < w.drop k
/-- less than all its other turns -/
def R (w : List Nat) : Prop := w ≠ [] ∧ ∀ k, 0 < k → k < w.length → w < w.drop k ++ w.take k
theorem L.far {w : List Nat} (h : L w) {k : Nat} (h0 : 0 < k) (hk : k < w.length) (u v : List Nat) : w ++ u < w.drop k ++ v := by
  rcases lt_cases (h.2 k h0 hk) with ⟨y, t, e⟩ | ⟨p, x, y, s, t, e1, e2, hxy⟩
  · have := congrArg List.length e
    rw [List.length_drop, List.length_append] at this
    omega
  · rw [e2]
    conv => lhs; rw [e1]
    rw [List.append_assoc, List.append_assoc]
    exact lt_dif hxy
theorem L.turns {w : List Nat} (h : L w) : R w := ⟨h.1, fun k h0 hk => by
  have := h.far h0 hk [] (w.take k)
  rwa [List.append_nil] at this⟩
theorem R.ends {w : List Nat} (h : R w) : L w := by
  refine ⟨h.1, fun k h0 hk => ?_⟩
  rcases trich w (w.drop k) with g | g | g
  · exact g
  · have := congrArg List.length g
    rw [List.length_drop] at this
    omega
  · exfalso
    have hR := h.2 k h0 hk
    have e0 : w = w.take k ++ w.drop k := (List.take_append_drop k w).symm
    have lu : (w.take k).length = k := by rw [List.length_take]; omega
    have lx : (w.drop k).length = w.length - k := List.length_drop
    generalize w.take k = u at *
    generalize w.drop k = x at *
    rcases lt_cases g with ⟨y, t, e⟩ | ⟨p, a, b, s, t, e1, e2, hab⟩
    · -- x is ahead of w
      have hlen := congrArg List.length e
      rw [List.length_append] at hlen
      have h1 : x ++ (y :: t) < x ++ u := by rw [← e]; exact hR
      have h2 := (app_lt x).mp h1
      have hR2 := h.2 x.length (by omega) (by omega)
      rw [e, List.drop_left' rfl, List.take_left' rfl, ← e, e0] at hR2
      rcases same_len (by omega) hR2 with z | z
      · exact lt_asymm h2 z
      · rw [z] at h2
        exact List.lt_irrefl _ h2
    · refine lt_asymm hR ?_
      rw [e2]
      conv => lhs; rw [e1]
      rw [List.append_assoc]
      exact lt_dif hab
theorem L.one (c : Nat) : L [c] := ⟨by simp, fun k h0 hk => by simp at hk; omega⟩
theorem L.join {u v : List Nat} (hu : L u) (hv : L v) (h : u < v) : L (u ++ v) := by
  have key : u ++ v < v := by
    rcases lt_cases h with ⟨y, t, e⟩ | ⟨p, x, y, s, t, e1, e2, hxy⟩
    · have lu : 0 < u.length := List.length_pos_iff.mpr hu.1
      have := hv.2 u.length lu (by rw [e, List.length_append, List.length_cons]; omega)
      have e2 : v.drop u.length = y :: t := by rw [e]; exact List.drop_left' rfl
      rw [e2] at this
      conv => rhs; rw [e]
      exact (app_lt u).mpr this
    · rw [e2, e1, List.append_assoc]
      exact lt_dif hxy
  refine ⟨by simp [hu.1], fun k h0 hk => ?_⟩
  rw [List.length_append] at hk
  rw [List.drop_append]
  by_cases h1 : k < u.length
  · rw [show k - u.length = 0 by omega, List.drop_zero]
    exact hu.far h0 h1 v v
  · rw [List.drop_of_length_le (by omega : u.length ≤ k), List.nil_append]
    by_cases h2 : k - u.length = 0
    · rw [h2, List.drop_zero]
      exact key
    · exact List.lt_trans key (hv.2 _ (by omega) (by omega))
/-- none less than the next -/
def Ch : List (List Nat) → Prop
  | [] => True
  | [_] => True
  | a :: b :: r => ¬ a < b ∧ Ch (b :: r)
theorem Ch.tail {a : List Nat} : ∀ {l : List (List Nat)}, Ch (a :: l) → Ch l
  | [], _ => True.intro
  | _ :: _, h => h.2
def put (u : List Nat) : List (List Nat) → List (List Nat)
  | [] => [u]
  | v :: vs => if u < v then put (u ++ v) vs else u :: v :: vs
theorem put_ok : ∀ (ws : List (List Nat)) (u : List Nat), L u → (∀ w ∈ ws, L w) → Ch ws → (∀ w ∈ put u ws, L w) ∧ Ch (put u ws) ∧ (put u ws).flatten = u ++ ws.flatten
  | [], u, hu, _, _ => ⟨fun w hw => by rw [List.mem_singleton.mp hw]; exact hu, True.intro, by simp [put]⟩
  | v :: vs, u, hu, hws, hc => by
    unfold put
    by_cases h : u < v
    · rw [if_pos h]
      obtain ⟨a, b, c⟩ := put_ok vs (u ++ v) (hu.join (hws v List.mem_cons_self) h) (fun w hw => hws w (List.mem_cons_of_mem _ hw)) hc.tail
      exact ⟨a, b, by rw [c, List.flatten_cons, List.append_assoc]⟩
    · rw [if_neg h]
      refine ⟨fun w hw => ?_, ⟨h, hc⟩, by rw [List.flatten_cons]⟩
      rcases List.mem_cons.mp hw with rfl | hw
      · exact hu
      · exact hws w hw
theorem parts_exist : ∀ T : List Nat, ∃ ws : List (List Nat), (∀ w ∈ ws, L w) ∧ Ch ws ∧ ws.flatten = T
  | [] => ⟨[], ⟨fun w hw => absurd hw (List.not_mem_nil), True.intro, rfl⟩⟩
  | c :: T => by
    obtain ⟨ws, h1, h2, h3⟩ := parts_exist T
    obtain ⟨a, b, d⟩ := put_ok ws [c] (.one c) h1 h2
    exact ⟨_, a, b, by rw [d, h3]; rfl⟩
theorem rest_less : ∀ (ws : List (List Nat)) (w : List Nat), L w → (∀ v ∈ ws, L v) → Ch (w :: ws) → ws.flatten < w ++ ws.flatten
  | [], w, hw, _, _ => by
    cases w with
    | nil => exact absurd rfl hw.1
    | cons c w => exact List.nil_lt_cons _ _
  | v :: vs, w, hw, hws, hc => by
    have hv := hws v List.mem_cons_self
    have ih := rest_less vs v hv (fun x hx => hws x (List.mem_cons_of_mem _ hx)) hc.2
    rw [List.flatten_cons]
    generalize vs.flatten = F at *
    have inner : ∀ (n k : Nat), w.length - k ≤ n → 0 < k → k < w.length → v < w.drop k → F < w.drop k ++ (v ++ F) := by
      intro n
      induction n with
      | zero => intro k h1 h2 h3; omega
      | succ n ihn =>
        intro k h1 h2 h3 h4
        rcases lt_cases h4 with ⟨y, t, e⟩ | ⟨p, x, y, s, t, e1, e2, hxy⟩
        · have lv : 0 < v.length := List.length_pos_iff.mpr hv.1
          have el := congrArg List.length e
          rw [List.length_drop, List.length_append, List.length_cons] at el
          have ed : w.drop (k + v.length) = y :: t := by rw [← List.drop_drop, e]; exact List.drop_left' rfl
          have hvw : v < w.drop (k + v.length) := by
            have hlt : ¬ w < v := hc.1
            have h5 := hw.2 (k + v.length) (by omega) (by omega)
            rcases trich v w with z | z | z
            · exact List.lt_trans z h5
            · rw [z]; rw [z] at h5; exact h5
            · exact absurd z hlt
          have := ihn (k + v.length) (by omega) (by omega) (by omega) hvw
          rw [ed] at this
          rw [e]
          refine List.lt_trans ih ?_
          rw [List.append_assoc]
          exact (app_lt v).mpr this
        · refine List.lt_trans ih ?_
          rw [e2]
          conv => lhs; rw [e1]
          rw [List.append_assoc, List.append_assoc]
          exact lt_dif hxy
    rcases trich v w with z | z | z
    · rcases lt_cases z with ⟨y, t, e⟩ | ⟨p, x, y, s, t, e1, e2, hxy⟩
      · have lv : 0 < v.length := List.length_pos_iff.mpr hv.1
        have lw : v.length < w.length := by rw [e, List.length_append, List.length_cons]; omega
        have ed : w.drop v.length = y :: t := by rw [e]; exact List.drop_left' rfl
        have := inner w.length v.length (by omega) lv lw (List.lt_trans z (hw.2 _ lv lw))
        rw [ed] at this
        conv => rhs; rw [e]
        rw [List.append_assoc]
        exact (app_lt v).mpr this
      · rw [e2]
        conv => lhs; rw [e1]
        rw [List.append_assoc, List.append_assoc]
        exact lt_dif hxy
    · rw [z] at ih ⊢
      exact (app_lt w).mpr ih
    · exact absurd z hc.1
/-! ### the places at which the parts begin -/
def scan : List Nat → List Nat → Nat → List Nat
  | [], _, _ => []
  | c :: s, best, p => if c :: s < best then p :: scan s (c :: s) (p + 1) else scan s best (p + 1)
def offs : List (List Nat) → Nat → List Nat
  | [], _ => []
  | v :: vs, p => p :: offs vs (p + v.length)
theorem scan_in (F best : List Nat) : ∀ (x : List Nat) (p : Nat), (∀ k, k < x.length → ¬ x.drop k ++ F < best) → scan (x ++ F) best p = scan F best (p + x.length)
  | [], p, _ => rfl
  | c :: x, p, h => by
    have h0 : ¬ c :: (x ++ F) < best := h 0 (by simp)
    show (if c :: (x ++ F) < best then _ else _) = _
    rw [if_neg h0]
    show scan (x ++ F) best (p + 1) = _
    rw [scan_in F best x (p + 1) fun k hk => h (k + 1) (by simpa using hk)]
    rw [List.length_cons]
    congr 1
    omega
theorem scan_ws : ∀ (ws : List (List Nat)) (w : List Nat) (p : Nat), L w → (∀ v ∈ ws, L v) → Ch (w :: ws) → scan ws.flatten (w ++ ws.flatten) p = offs ws p
  | [], _, _, _, _, _ => rfl
  | v :: vs, w, p, hw, hws, hc => by
    have hl := rest_less (v :: vs) w hw hws hc
    have hv := hws v List.mem_cons_self
    rw [List.flatten_cons] at hl ⊢
    match v, hv with
    | [], hv => exact absurd rfl hv.1
    | c :: v', hv =>
      have hl' : c :: (v' ++ vs.flatten) < w ++ (c :: v' ++ vs.flatten) := hl
      show (if c :: (v' ++ vs.flatten) < w ++ (c :: v' ++ vs.flatten) then _ else _) = _
      rw [if_pos hl']
      show _ = p :: offs vs (p + (v'.length + 1))
      congr 1
      show scan (v' ++ vs.flatten) ((c :: v') ++ vs.flatten) (p + 1) = _
      rw [scan_in _ _ v' (p + 1) fun k hk g => lt_asymm g ((hv.far (k := k + 1) (by omega) (by simpa using hk) vs.flatten vs.flatten)), scan_ws vs (c :: v') _ hv (fun x hx => hws x (List.mem_cons_of_mem _ hx)) hc.2]
      congr 1
      omega
/-- the begins among the first i places -/
def begs (T : List Nat) : Nat → List Nat
  | 0 => []
  | i + 1 => match (begs T i).getLast? with
    | none => begs T i ++ [i]
    | some b => if T.drop i < T.drop b then begs T i ++ [i] else begs T i
theorem begs_scan (T : List Nat) : ∀ (d i b : Nat), T.length - i = d → i ≤ T.length → (begs T i).getLast? = some b → begs T T.length = begs T i ++ scan (T.drop i) (T.drop b) i := by
  intro d
  induction d with
  | zero =>
    intro i b h1 h2 _
    have : i = T.length := by omega
    subst this
    rw [List.drop_length]
    simp [scan]
  | succ d ih =>
    intro i b h1 h2 hb
    have hi : i < T.length := by omega
    have ed : T.drop i = T[i] :: T.drop (i + 1) := List.drop_eq_getElem_cons hi
    have hs : begs T (i + 1) = if T.drop i < T.drop b then begs T i ++ [i] else begs T i := by
      show (match (begs T i).getLast? with | none => _ | some b => _) = _
      rw [hb]
    by_cases h : T.drop i < T.drop b
    · rw [if_pos h] at hs
      have := ih (i + 1) i (by omega) (by omega) (by rw [hs]; simp)
      rw [this, hs, List.append_assoc]
      congr 1
      conv => rhs; rw [ed]
      show _ = if T[i] :: T.drop (i + 1) < T.drop b then _ else _
      rw [← ed, if_pos h]
      rfl
    · rw [if_neg h] at hs
      have := ih (i + 1) b (by omega) (by omega) (by rw [hs]; exact hb)
      rw [this, hs]
      congr 1
      conv => rhs; rw [ed]
      show _ = if T[i] :: T.drop (i + 1) < T.drop b then _ else _
      rw [← ed, if_neg h]
theorem begs_offs {ws : List (List Nat)} {T : List Nat} (h : ∀ w ∈ ws, L w) (hc : Ch ws) (e : ws.flatten = T) : begs T T.length = offs ws 0 := by
  subst e
  match ws, h, hc with
  | [], _, _ => rfl
  | w :: vs, h, hc =>
    have hw := h w List.mem_cons_self
    match w, hw, hc, h with
    | [], hw, _, _ => exact absurd rfl hw.1
    | c :: w', hw, hc, h =>
      have hT : ((c :: w') :: vs).flatten = c :: (w' ++ vs.flatten) := rfl
      rw [begs_scan _ (((c :: w') :: vs).flatten.length - 1) 1 0 rfl (by rw [hT, List.length_cons]; omega) rfl]
      show 0 :: scan (w' ++ vs.flatten) ((c :: w') ++ vs.flatten) 1 = 0 :: offs vs (0 + (w'.length + 1))
      rw [scan_in _ _ w' 1 fun k hk g => lt_asymm g ((hw.far (k := k + 1) (by omega) (by simpa using hk) vs.flatten vs.flatten)), scan_ws vs (c :: w') _ hw (fun x hx => h x (List.mem_cons_of_mem _ hx)) hc]
      congr 2
      omega
/-- the parts between the begins -/
theorem cut_offs (T : List Nat) : ∀ (ws : List (List Nat)) (p : Nat), T.drop p = ws.flatten → p ≤ T.length → ((offs ws p).zip ((offs ws p).drop 1 ++ [T.length])).map (fun q => (T.take q.2).drop q.1) = ws
  | [], _, _, _ => rfl
  | v :: vs, p, h, hp => by
    have hl := congrArg List.length h
    rw [List.length_drop, List.flatten_cons, List.length_append] at hl
    have hv : T.drop (p + v.length) = vs.flatten := by
      rw [← List.drop_drop, h, List.flatten_cons]
      exact List.drop_left' rfl
    have ih := cut_offs T vs (p + v.length) hv (by omega)
    show (((p :: offs vs (p + v.length)).zip (offs vs (p + v.length) ++ [T.length])).map _) = _
    have first : (T.take (p + v.length)).drop p = v := by
      rw [List.drop_take, h, List.flatten_cons, show p + v.length - p = v.length by omega]
      exact List.take_left' rfl
    match vs, ih, hv, h, hl with
    | [], _, hv, h, hl =>
      have : p + v.length = T.length := by simp at hl; omega
      show [(T.take T.length).drop p] = [v]
      rw [← this, first]
    | x :: xs, ih, _, _, _ =>
      show (T.take (p + v.length)).drop p :: _ = v :: _
      rw [first]
      congr 1
end Lyn

set_option Elab.async false
set_option linter.all false
set_option maxRecDepth 100000
set_option maxHeartbeats 4000000
/-! BwtList: the row of a list of texts by the order of its suffixes, and the steps back. -/
namespace BwL
open PySem L2
abbrev Pt := Nat × Nat
def tx (ts : List (List Nat)) (j : Nat) : List Nat := ts.getD j []
def sf (ts : List (List Nat)) (x : Pt) : List Nat := (tx ts x.1).drop x.2
def lt (ts : List (List Nat)) (x y : Pt) : Prop := sf ts x < sf ts y ∨ (sf ts x = sf ts y ∧ x.1 < y.1)
def Ok (ts : List (List Nat)) (x : Pt) : Prop := x.1 < ts.length ∧ x.2 ≤ (tx ts x.1).length
def total (ts : List (List Nat)) : Nat := (ts.map fun t => t.length + 1).sum
/-- the suffixes of a list of texts, in their order -/
structure LOrd (ts : List (List Nat)) (l : List Pt) : Prop where
  mem : ∀ x, x ∈ l ↔ Ok ts x
  inc : l.Pairwise (lt ts)
def sg (ts : List (List Nat)) (x : Pt) : Nat := (36 :: tx ts x.1).getD x.2 0
def rowL (ts : List (List Nat)) (l : List Pt) : List Nat := l.map (sg ts)
def rk (l : List Pt) (x : Pt) : Nat := l.idxOf x
variable {ts : List (List Nat)} {l : List Pt}
theorem lt_irr (x : Pt) : ¬ lt ts x x := fun h => by
  rcases h with h | ⟨_, h⟩
  · exact List.lt_irrefl _ h
  · omega
theorem lt_tr {x y z : Pt} (h : lt ts x y) (g : lt ts y z) : lt ts x z := by
  rcases h with h | ⟨h1, h2⟩
  · rcases g with g | ⟨g1, g2⟩
    · exact .inl (List.lt_trans h g)
    · exact .inl (g1 ▸ h)
  · rcases g with g | ⟨g1, g2⟩
    · exact .inl (h1 ▸ g)
    · exact .inr ⟨h1.trans g1, by omega⟩
theorem pair_nodup {α : Type} {r : α → α → Prop} (ir : ∀ x, ¬ r x x) {l : List α} (h : l.Pairwise r) : l.Nodup := List.Pairwise.imp (S := fun a b => a ≠ b) (fun {a b} (q : r a b) (e : a = b) => ir a (by rw [← e] at q; exact q)) h
/-- just one list of what is there goes up -/
theorem uniq {α : Type} {r : α → α → Prop} (ir : ∀ x, ¬ r x x) (tr : ∀ {x y z}, r x y → r y z → r x z) : ∀ {l m : List α}, l.Pairwise r → m.Pairwise r → (∀ x, x ∈ l ↔ x ∈ m) → l = m
  | [], [], _, _, _ => rfl
  | [], b :: m, _, _, h => absurd ((h b).mpr List.mem_cons_self) List.not_mem_nil
  | a :: l, [], _, _, h => absurd ((h a).mp List.mem_cons_self) List.not_mem_nil
  | a :: l, b :: m, h1, h2, h => by
    cases h1 with
    | cons a1 a2 =>
      cases h2 with
      | cons b1 b2 =>
        have e : a = b := by
          rcases List.mem_cons.mp ((h a).mp List.mem_cons_self) with z | z
          · exact z
          · rcases List.mem_cons.mp ((h b).mpr List.mem_cons_self) with y | y
            · exact y.symm
            · exact absurd (tr (b1 a z) (a1 b y)) (ir b)
        subst e
        refine congrArg (a :: ·) (uniq ir tr a2 b2 fun x => ⟨fun hx => ?_, fun hx => ?_⟩)
        · rcases List.mem_cons.mp ((h x).mp (List.mem_cons_of_mem _ hx)) with z | z
          · exact absurd (z ▸ a1 x hx) (ir a)
          · exact z
        · rcases List.mem_cons.mp ((h x).mpr (List.mem_cons_of_mem _ hx)) with z | z
          · exact absurd (z ▸ b1 x hx) (ir a)
          · exact z
theorem LOrd.one {m : List Pt} (h : LOrd ts l) (g : LOrd ts m) : l = m := uniq lt_irr lt_tr h.inc g.inc fun x => (h.mem x).trans (g.mem x).symm
theorem nodup (h : LOrd ts l) : l.Nodup := pair_nodup lt_irr h.inc
theorem rk_lt (h : LOrd ts l) {x : Pt} (hx : Ok ts x) : rk l x < l.length := List.idxOf_lt_length_iff.mpr ((h.mem x).mpr hx)
theorem at_rk (h : LOrd ts l) {x : Pt} (hx : Ok ts x) : l[rk l x]? = some x := by
  have hl := rk_lt h hx
  rw [List.getElem?_eq_getElem hl]
  exact congrArg some (List.getElem_idxOf hl)
theorem rk_at (h : LOrd ts l) {i : Nat} {x : Pt} (e : l[i]? = some x) : rk l x = i := by
  have h1 := at_rk h ((h.mem x).mp (List.mem_of_getElem? e))
  obtain ⟨a1, a2⟩ := List.getElem?_eq_some_iff.mp e
  obtain ⟨b1, b2⟩ := List.getElem?_eq_some_iff.mp h1
  exact (List.getElem_inj (xs := l) (h₀ := b1) (h₁ := a1) (nodup h)).mp (b2.trans a2.symm)
theorem rk_inj (h : LOrd ts l) {x y : Pt} (hx : Ok ts x) (hy : Ok ts y) (e : rk l x = rk l y) : x = y := by
  have h1 := at_rk h hx
  rw [e, at_rk h hy] at h1
  exact (Option.some.inj h1).symm
theorem at_lt (h : LOrd ts l) {i j : Nat} {a b : Pt} (hij : i < j) (ha : l[i]? = some a) (hb : l[j]? = some b) : lt ts a b := by
  obtain ⟨a1, a2⟩ := List.getElem?_eq_some_iff.mp ha
  obtain ⟨b1, b2⟩ := List.getElem?_eq_some_iff.mp hb
  have := List.pairwise_iff_getElem.mp h.inc i j a1 b1 hij
  rwa [a2, b2] at this
theorem rk_mono (h : LOrd ts l) {a b : Pt} (ha : Ok ts a) (hb : Ok ts b) (hlt : lt ts a b) : rk l a < rk l b := by
  rcases Nat.lt_trichotomy (rk l a) (rk l b) with z | z | z
  · exact z
  · rw [rk_inj h ha hb z] at hlt
    exact absurd hlt (lt_irr b)
  · exact absurd (lt_tr hlt (at_lt h z (at_rk h hb) (at_rk h ha))) (lt_irr a)
/-- the empty suffixes come first -/
def ends (ts : List (List Nat)) : List Pt := (List.range ts.length).map fun j => (j, (tx ts j).length)
def rest (ts : List (List Nat)) (l : List Pt) : List Pt := l.filter fun x => decide (x.2 < (tx ts x.1).length)
theorem sf_nil {x : Pt} (h : Ok ts x) : sf ts x = [] ↔ x.2 = (tx ts x.1).length := by
  unfold sf
  rw [List.drop_eq_nil_iff]
  have := h.2
  omega
theorem ends_mem {x : Pt} : x ∈ ends ts ↔ x.1 < ts.length ∧ x.2 = (tx ts x.1).length := by
  unfold ends
  rw [List.mem_map]
  constructor
  · rintro ⟨j, hj, rfl⟩
    exact ⟨List.mem_range.mp hj, rfl⟩
  · rintro ⟨h1, h2⟩
    exact ⟨x.1, List.mem_range.mpr h1, by rw [← h2]⟩
theorem rest_mem (h : LOrd ts l) {x : Pt} : x ∈ rest ts l ↔ x.1 < ts.length ∧ x.2 < (tx ts x.1).length := by
  unfold rest
  rw [List.mem_filter, h.mem, decide_eq_true_eq]
  unfold Ok
  omega
theorem split (h : LOrd ts l) : l = ends ts ++ rest ts l := by
  refine uniq lt_irr lt_tr h.inc ?_ fun x => ?_
  · refine List.pairwise_append.mpr ⟨?_, h.inc.sublist List.filter_sublist, fun a ha b hb => ?_⟩
    · unfold ends
      rw [List.pairwise_map]
      refine List.pairwise_lt_range.imp fun {i j} hij => .inr ⟨?_, hij⟩
      show (tx ts i).drop _ = (tx ts j).drop _
      rw [List.drop_length, List.drop_length]
    · obtain ⟨a1, a2⟩ := ends_mem.mp ha
      obtain ⟨b1, b2⟩ := (rest_mem h).mp hb
      refine .inl ?_
      rw [(sf_nil ⟨a1, by omega⟩).mpr a2]
      unfold sf
      rw [List.drop_eq_getElem_cons b2]
      exact List.nil_lt_cons _ _
  · rw [List.mem_append, h.mem, ends_mem, rest_mem h]
    unfold Ok
    omega
theorem ends_len : (ends ts).length = ts.length := by
  unfold ends
  rw [List.length_map, List.length_range]
theorem rk_end (h : LOrd ts l) {j : Nat} (hj : j < ts.length) : rk l (j, (tx ts j).length) = j := by
  refine rk_at h ?_
  rw [split h, List.getElem?_append_left (by rw [ends_len]; exact hj)]
  unfold ends
  rw [List.getElem?_map, List.getElem?_range hj]
  rfl
theorem rest_at (h : LOrd ts l) {x : Pt} (h1 : x.1 < ts.length) (h2 : x.2 < (tx ts x.1).length) : ts.length ≤ rk l x ∧ (rest ts l)[rk l x - ts.length]? = some x := by
  have hx := at_rk h (x := x) ⟨h1, by omega⟩
  have hge : ts.length ≤ rk l x := by
    by_cases z : rk l x < ts.length
    · exfalso
      have e := rk_end h z
      have := rk_inj h (x := (rk l x, (tx ts (rk l x)).length)) ⟨z, Nat.le_refl _⟩ ⟨h1, by omega⟩ e
      rw [← this] at h2
      exact Nat.lt_irrefl _ h2
    · omega
  refine ⟨hge, ?_⟩
  generalize rk l x = k at *
  rw [split h, List.getElem?_append_right (by rw [ends_len]; exact hge), ends_len] at hx
  exact hx
theorem row_len : (rowL ts l).length = l.length := by
  unfold rowL
  rw [List.length_map]
theorem row_rk (h : LOrd ts l) {x : Pt} (hx : Ok ts x) : (rowL ts l).getD (rk l x) 0 = sg ts x := by
  unfold rowL
  rw [List.getD_eq_getElem?_getD, List.getElem?_map, at_rk h hx]
  rfl
theorem sg_succ (j s : Nat) : sg ts (j, s + 1) = (tx ts j).getD s 0 := by
  unfold sg
  simp
theorem sg_zero (j : Nat) : sg ts (j, 0) = 36 := rfl
def heads (l : List Pt) : List Pt := l.filter fun x => decide (x.2 = 0)
/-- the ranks of the places, one on -/
def ord0 (ts : List (List Nat)) (l : List Pt) : List Nat := (heads l).map (rk l) ++ (rest ts l).map fun x => rk l (x.1, x.2 + 1)
theorem heads_mem (h : LOrd ts l) {x : Pt} : x ∈ heads l ↔ x.1 < ts.length ∧ x.2 = 0 := by
  unfold heads
  rw [List.mem_filter, h.mem, decide_eq_true_eq]
  unfold Ok
  omega
theorem heads_len (h : LOrd ts l) : (heads l).length = ts.length := by
  have p : (heads l).Perm ((List.range ts.length).map fun j => ((j, 0) : Pt)) := by
    refine (List.perm_ext_iff_of_nodup ((nodup h).sublist List.filter_sublist) ?_).mpr fun x => ?_
    · refine List.pairwise_map.mpr (List.nodup_range.imp fun {a b} ne e => ne (congrArg Prod.fst e))
    · show x ∈ heads l ↔ _
      rw [heads_mem h, List.mem_map]
      constructor
      · rintro ⟨h1, h2⟩
        exact ⟨x.1, List.mem_range.mpr h1, by rw [← h2]⟩
      · rintro ⟨j, hj, rfl⟩
        exact ⟨List.mem_range.mp hj, rfl⟩
  rw [p.length_eq, List.length_map, List.length_range]
def lr (cs : List Nat) (i j : Nat) : Prop := cs.getD i 0 < cs.getD j 0 ∨ (cs.getD i 0 = cs.getD j 0 ∧ i < j)
theorem lr_irr (cs : List Nat) (i : Nat) : ¬ lr cs i i := fun h => by unfold lr at h; omega
theorem lr_tr {cs : List Nat} {i j k : Nat} (h : lr cs i j) (g : lr cs j k) : lr cs i k := by unfold lr at *; omega
variable (big : ∀ t ∈ ts, ∀ c ∈ t, 36 < c)
include big
theorem big_at {j s : Nat} (h : s < (tx ts j).length) : 36 < (tx ts j).getD s 0 := by
  rw [List.getD_eq_getElem?_getD, List.getElem?_eq_getElem h]
  refine big (tx ts j) ?_ _ (List.getElem_mem h)
  unfold tx at *
  rw [List.getD_eq_getElem?_getD] at *
  cases e : ts[j]? with
  | none =>
    rw [e] at h
    exact absurd h (Nat.not_lt_zero _)
  | some t => exact List.mem_of_getElem? e
theorem ord0_inc (h : LOrd ts l) : (ord0 ts l).Pairwise (lr (rowL ts l)) := by
  unfold ord0
  have ho : ∀ x ∈ heads l, Ok ts x := fun x hx => (h.mem x).mp (List.mem_filter.mp hx).1
  refine List.pairwise_append.mpr ⟨?_, ?_, fun a ha b hb => ?_⟩
  · rw [List.pairwise_map]
    refine List.Pairwise.imp_of_mem (fun {x y} hx hy q => ?_) (h.inc.sublist List.filter_sublist : (heads l).Pairwise (lt ts))
    have x0 := ((heads_mem h).mp hx).2
    have y0 := ((heads_mem h).mp hy).2
    refine .inr ⟨?_, rk_mono h (ho x hx) (ho y hy) q⟩
    rw [row_rk h (ho x hx), row_rk h (ho y hy)]
    unfold sg
    rw [x0, y0]
    rfl
  · rw [List.pairwise_map]
    refine List.Pairwise.imp_of_mem (fun {x y} hx hy q => ?_) (h.inc.sublist List.filter_sublist : (rest ts l).Pairwise (lt ts))
    obtain ⟨x1, x2⟩ := (rest_mem h).mp hx
    obtain ⟨y1, y2⟩ := (rest_mem h).mp hy
    have ox : Ok ts (x.1, x.2 + 1) := ⟨x1, x2⟩
    have oy : Ok ts (y.1, y.2 + 1) := ⟨y1, y2⟩
    unfold lr
    rw [row_rk h ox, row_rk h oy, sg_succ, sg_succ]
    have ex : sf ts x = (tx ts x.1).getD x.2 0 :: sf ts (x.1, x.2 + 1) := drop_at x2
    have ey : sf ts y = (tx ts y.1).getD y.2 0 :: sf ts (y.1, y.2 + 1) := drop_at y2
    rcases q with q | ⟨q1, q2⟩
    · rw [ex, ey, lt_cons] at q
      rcases q with q | ⟨q1, q2⟩
      · exact .inl q
      · exact .inr ⟨q1, rk_mono h ox oy (.inl q2)⟩
    · rw [ex, ey] at q1
      injection q1 with c1 c2
      exact .inr ⟨c1, rk_mono h ox oy (.inr ⟨c2, q2⟩)⟩
  · obtain ⟨x, hx, rfl⟩ := List.mem_map.mp ha
    obtain ⟨y, hy, rfl⟩ := List.mem_map.mp hb
    obtain ⟨y1, y2⟩ := (rest_mem h).mp hy
    have oy : Ok ts (y.1, y.2 + 1) := ⟨y1, y2⟩
    refine .inl ?_
    rw [row_rk h (ho x hx), row_rk h oy, sg_succ]
    have x0 := ((heads_mem h).mp hx).2
    have : sg ts x = 36 := by
      unfold sg
      rw [x0]
      rfl
    rw [this]
    exact big_at big y2
omit big in
theorem ord0_mem (h : LOrd ts l) (i : Nat) : i ∈ ord0 ts l ↔ i < l.length := by
  unfold ord0
  rw [List.mem_append, List.mem_map, List.mem_map]
  constructor
  · rintro (⟨x, hx, rfl⟩ | ⟨x, hx, rfl⟩)
    · exact rk_lt h ((h.mem x).mp (List.mem_filter.mp hx).1)
    · obtain ⟨x1, x2⟩ := (rest_mem h).mp hx
      exact rk_lt h ⟨x1, x2⟩
  · intro hi
    have e : l[i]? = some l[i] := List.getElem?_eq_getElem hi
    have ok := (h.mem _).mp (List.getElem_mem hi)
    have er := rk_at h e
    obtain ⟨⟨j, p⟩, hx⟩ : ∃ x, l[i] = x := ⟨_, rfl⟩
    rw [hx] at ok er
    cases p with
    | zero => exact .inl ⟨(j, 0), (heads_mem h).mpr ⟨ok.1, rfl⟩, er⟩
    | succ s => exact .inr ⟨(j, s), (rest_mem h).mpr ⟨ok.1, ok.2⟩, er⟩
theorem ord_row (h : LOrd ts l) : ordI (rowL ts l) = ord0 ts l := by
  unfold ordI
  rw [row_len]
  have nd := pair_nodup (lr_irr _) (ord0_inc big h)
  refine sorted_uniq (dle (skey (rowL ts l))) (fun x _ y _ h1 h2 => ?_) ((isort_perm _ _).trans ?_) (isort_sorted _ (dle_trans _) (dle_total _) _) ((ord0_inc big h).imp fun {i j} q => ?_)
  · rw [dle_skey] at h1 h2
    omega
  · exact ((List.perm_ext_iff_of_nodup nd List.nodup_range).mpr fun i => by rw [ord0_mem h, List.mem_range]).symm
  · rw [dle_skey]
    unfold lr at q
    omega
end BwL

set_option Elab.async false
set_option linter.all false
set_option maxRecDepth 100000
set_option maxHeartbeats 4000000
/-! LcKit: comprehensions whose items are known one by one. -/
namespace L2
open PySem
/-- all but the lists stay -/
def KeepL (H H' : Hp) : Prop := ∀ b o, H b = some o → (∀ l, o ≠ .lst l) → H' b = some o
theorem KeepL.of {H H' : Hp} (s : ∀ b o, H b = some o → H' b = some o) : KeepL H H' := fun b o e _ => s b o e
theorem KeepL.trans {H H1 H2 : Hp} (s : KeepL H H1) (t : KeepL H1 H2) : KeepL H H2 := fun b o e n => t b o (s b o e n) n
inductive All2 {α β : Type} (R : α → β → Prop) : List α → List β → Prop
  | nil : All2 R [] []
  | cons {x : α} {z : β} {xs : List α} {zs : List β} (h : R x z) (t : All2 R xs zs) : All2 R (x :: xs) (z :: zs)
section
variable {α β : Type} {R : α → β → Prop}
theorem All2.length {xs : List α} {zs : List β} (h : All2 R xs zs) : xs.length = zs.length := by
  induction h with
  | nil => rfl
  | cons _ _ ih => rw [List.length_cons, List.length_cons, ih]
theorem All2.get {xs : List α} {zs : List β} (h : All2 R xs zs) {i : Nat} {x : α} (e : xs[i]? = some x) : ∃ z, zs[i]? = some z ∧ R x z := by
  induction h generalizing i with
  | nil => cases e
  | cons h t ih =>
    cases i with
    | zero => cases e; exact ⟨_, rfl, h⟩
    | succ i => exact ih e
theorem All2.getR {xs : List α} {zs : List β} (h : All2 R xs zs) {i : Nat} {z : β} (e : zs[i]? = some z) : ∃ x, xs[i]? = some x ∧ R x z := by
  induction h generalizing i with
  | nil => cases e
  | cons h t ih =>
    cases i with
    | zero => cases e; exact ⟨_, rfl, h⟩
    | succ i => exact ih e
theorem All2.append {xs ys : List α} {zs ws : List β} (h : All2 R xs zs) (g : All2 R ys ws) : All2 R (xs ++ ys) (zs ++ ws) := by
  induction h with
  | nil => exact g
  | cons h t ih => exact .cons h ih
theorem All2.mono {S : α → β → Prop} {xs : List α} {zs : List β} (h : All2 R xs zs) (m : ∀ x z, z ∈ zs → R x z → S x z) : All2 S xs zs := by
  induction h with
  | nil => exact .nil
  | cons h t ih => exact .cons (m _ _ List.mem_cons_self h) (ih fun x z hz r => m x z (List.mem_cons_of_mem _ hz) r)
theorem All2.drop {xs : List α} {zs : List β} (h : All2 R xs zs) : ∀ k : Nat, All2 R (xs.drop k) (zs.drop k)
  | 0 => h
  | k + 1 => by
    cases h with
    | nil => exact .nil
    | cons h t => exact t.drop k
theorem All2.take {xs : List α} {zs : List β} (h : All2 R xs zs) : ∀ k : Nat, All2 R (xs.take k) (zs.take k)
  | 0 => .nil
  | k + 1 => by
    cases h with
    | nil => exact .nil
    | cons h t => exact .cons h (t.take k)
theorem All2.map {γ : Type} {f : γ → α} {g : γ → β} : ∀ {cs : List γ}, (∀ c ∈ cs, R (f c) (g c)) → All2 R (cs.map f) (cs.map g)
  | [], _ => .nil
  | c :: cs, h => .cons (h c List.mem_cons_self) (All2.map fun d hd => h d (List.mem_cons_of_mem _ hd))
theorem All2.mem {xs : List α} {zs : List β} (h : All2 R xs zs) {x : α} (e : x ∈ xs) : ∃ z, z ∈ zs ∧ R x z := by
  obtain ⟨i, hi⟩ := List.mem_iff_getElem?.mp e
  obtain ⟨z, hz, r⟩ := h.get hi
  exact ⟨z, List.mem_of_getElem? hz, r⟩
/-- values that are told by what they are -/
theorem All2.eq_map {f : β → α} {xs : List α} {zs : List β} (h : All2 (fun x z => x = f z) xs zs) : xs = zs.map f := by
  induction h with
  | nil => rfl
  | cons h t ih => rw [List.map_cons, h, ih]
theorem All2.of_map {f : β → α} : ∀ zs : List β, All2 (fun x z => x = f z) (zs.map f) zs
  | [] => .nil
  | z :: zs => .cons rfl (All2.of_map zs)
end
theorem filter_take_succ {β γ : Type} {zs : List β} {i : Nat} {z : β} (e : zs[i]? = some z) (t : β → Bool) (f : β → γ) : ((zs.take (i + 1)).filter t).map f = ((zs.take i).filter t).map f ++ (if t z = true then [f z] else []) := by
  rw [List.take_succ, e, List.filter_append, List.map_append]
  congr 1
  by_cases h : t z = true
  · rw [if_pos h]
    simp [h]
  · rw [if_neg h]
    simp [h]
section
variable {K : PySem.W.Frag} {g : TG} {tt : TT} {te : TE} {vs : List Nat} {σ : St} {H1 : Hp} {D : Addr} {Qd : Hp → Prop} {α β : Type} {zs : List α} {R : Hp → V → α → Prop} {R' : Hp → V → β → Prop}
theorem sqT_same {H H' : Hp} {a : Addr} {xs : List V} (e : ∀ b o, H b = some o → H' b = some o) (h : SqT K H a xs) : SqT K H' a xs :=
  h.elim (fun h => .inl (h.elim (fun h => .inl (e _ _ h)) fun ⟨o, h⟩ => .inr ⟨o, e _ _ h⟩)) fun h => .inr h
theorem sqL_same {H H' : Hp} {a : Addr} {xs : List V} (e : ∀ b o, H b = some o → H' b = some o) (h : SqL K H a xs) : SqL K H' a xs :=
  h.elim (fun h => .inl (h.elim (fun h => .inl (e _ _ h)) fun ⟨o, h⟩ => .inr ⟨o, e _ _ h⟩)) fun h => .inr h
/-- one turn's wish -/
def LcP (H1 : Hp) (D : Addr) (R' : Hp → V → β → Prop) (zs : List α) (t : α → Bool) (f : α → β) (i : Nat) (H : Hp) : Prop := (∀ b o, H1 b = some o → H b = some o) ∧ ∃ ys, H D = some (.lst ys) ∧ All2 (R' H) ys (((zs.take i).filter t).map f)
theorem lcP_put {t : α → Bool} {f : α → β} {i : Nat} {z : α} {H H4 : Hp} {y : V} (hD : H1 D = none) (mR' : ∀ H H' x z, KeepL H H' → R' H x z → R' H' x z) (hz : zs.length < sizeLine) (e : zs[i]? = some z) (p : LcP H1 D R' zs t f i H) (ht : t z = true)
    (s : ∀ b o, H b = some o → H4 b = some o) (r : R' H4 y (f z)) : ∃ acc, H4 D = some (.lst acc) ∧ acc.length < sizeLine ∧ LcP H1 D R' zs t f (i + 1) (upd H4 D (.lst (acc ++ [y]))) := by
  obtain ⟨s1, ys, hd, a⟩ := p
  have kl : KeepL H4 (upd H4 D (.lst (ys ++ [y]))) := fun b o e n => by
    rw [upd_ne (fun q => by subst q; rw [s _ _ hd] at e; cases e; exact n _ rfl)]
    exact e
  have hlen := a.length
  rw [List.length_map] at hlen
  have h1 : ((zs.take i).filter t).length ≤ zs.length := Nat.le_trans (List.length_filter_le _ _) (by rw [List.length_take]; omega)
  refine ⟨ys, s _ _ hd, by omega, fun b o e => ?_, _, upd_same, ?_⟩
  · rw [upd_ne (ne_of_none e hD)]
    exact s _ _ (s1 _ _ e)
  · rw [filter_take_succ e, if_pos ht]
    exact (a.mono fun x z _ r => mR' _ _ _ _ kl (mR' _ _ _ _ (.of s) r)).append (.cons (mR' _ _ _ _ kl r) .nil)
theorem lcP_skip {t : α → Bool} {f : α → β} {i : Nat} {z : α} {H H3 : Hp} (mR' : ∀ H H' x z, KeepL H H' → R' H x z → R' H' x z) (e : zs[i]? = some z) (p : LcP H1 D R' zs t f i H) (ht : t z = false)
    (s : ∀ b o, H b = some o → H3 b = some o) : LcP H1 D R' zs t f (i + 1) H3 := by
  obtain ⟨s1, ys, hd, a⟩ := p
  refine ⟨fun b o e => s _ _ (s1 _ _ e), ys, s _ _ hd, ?_⟩
  rw [filter_take_succ e, if_neg (by rw [ht]; simp), List.append_nil]
  exact a.mono fun x z _ r => mR' _ _ _ _ (.of s) r
theorem lcP_zero {t : α → Bool} {f : α → β} (hD : H1 D = none) : LcP H1 D R' zs t f 0 (upd H1 D (.lst [])) := ⟨fun b o e => by rw [upd_ne (ne_of_none e hD)]; exact e, [], upd_same, .nil⟩
/-- over a list whose items are known -/
theorem lcM_list {a : Addr} {xs : List V} (t : α → Bool) (f : α → β) (hD : H1 D = none) (hS : SqL K H1 a xs) (hx : All2 (R H1) xs zs) (mR : ∀ H H' x z, (∀ b o, H b = some o → H' b = some o) → R H x z → R H' x z) (mR' : ∀ H H' x z, KeepL H H' → R' H x z → R' H' x z) (hz : zs.length < sizeLine)
    (step : ∀ (i : Nat) (x : V) (z : α) (H : Hp) (C : V → Hp → Prop) (C0 : Hp → Prop), zs[i]? = some z → (∀ b o, H1 b = some o → H b = some o) → R H x z →
      (t z = true → ∀ y H4, (∀ b o, H b = some o → H4 b = some o) → R' H4 y (f z) → C y H4) → (t z = false → ∀ H3, (∀ b o, H b = some o → H3 b = some o) → C0 H3) →
      g x (wipe σ vs) H fun σ2 H2 => wipe σ2 vs = wipe σ vs ∧ tt σ2 H2 fun b H3 => if b = true then te σ2 H3 C else C0 H3)
    (fin : ∀ ys H, (∀ b o, H1 b = some o → H b = some o) → H D = some (.lst ys) → All2 (R' H) ys ((zs.filter t).map f) → Qd H) :
    ∃ W : Nat → Nat → Hp → Prop, (∃ m, W 0 m (upd H1 D (.lst []))) ∧ ∀ i m H, W i m H →
      ((Itl K a).stop i H ∧ Qd H) ∨ ((Itl K a).go i H ∧ ∃ Nx : Hp → Prop, (∀ H', Nx H' → ∃ m', m' < m ∧ W (i + 1) m' H') ∧ ∀ x H', (Itl K a).yld i H x H' → g x (wipe σ vs) H' fun σ2 H2 => wipe σ2 vs = wipe σ vs ∧ tt σ2 H2 fun b H3 =>
        if b = true then te σ2 H3 fun y H4 => ∃ acc, H4 D = some (.lst acc) ∧ acc.length < sizeLine ∧ Nx (upd H4 D (.lst (acc ++ [y]))) else Nx H3) := by
  have el := hx.length
  refine lc_list (xs := xs) (LcP H1 D R' zs t f) (lcP_zero hD) (fun i H _ p => sqL_same p.1 hS) (fun i x H hi p => ?_) (fun H p => ?_)
  · obtain ⟨z, e, r⟩ := hx.get hi
    exact step i x z H _ _ e p.1 (mR _ _ _ _ p.1 r) (fun ht y H4 s r => lcP_put hD mR' hz e p ht s r) (fun ht H3 s => lcP_skip mR' e p ht s)
  · obtain ⟨s1, ys, hd, a2⟩ := p
    rw [el, List.take_length] at a2
    exact fin ys H s1 hd a2
/-- over a tuple -/
theorem lcM_tup {a : Addr} {xs : List V} (t : α → Bool) (f : α → β) (hD : H1 D = none) (hS : SqT K H1 a xs) (hx : All2 (R H1) xs zs) (mR : ∀ H H' x z, (∀ b o, H b = some o → H' b = some o) → R H x z → R H' x z) (mR' : ∀ H H' x z, KeepL H H' → R' H x z → R' H' x z) (hz : zs.length < sizeLine)
    (step : ∀ (i : Nat) (x : V) (z : α) (H : Hp) (C : V → Hp → Prop) (C0 : Hp → Prop), zs[i]? = some z → (∀ b o, H1 b = some o → H b = some o) → R H x z →
      (t z = true → ∀ y H4, (∀ b o, H b = some o → H4 b = some o) → R' H4 y (f z) → C y H4) → (t z = false → ∀ H3, (∀ b o, H b = some o → H3 b = some o) → C0 H3) →
      g x (wipe σ vs) H fun σ2 H2 => wipe σ2 vs = wipe σ vs ∧ tt σ2 H2 fun b H3 => if b = true then te σ2 H3 C else C0 H3)
    (fin : ∀ ys H, (∀ b o, H1 b = some o → H b = some o) → H D = some (.lst ys) → All2 (R' H) ys ((zs.filter t).map f) → Qd H) :
    ∃ W : Nat → Nat → Hp → Prop, (∃ m, W 0 m (upd H1 D (.lst []))) ∧ ∀ i m H, W i m H →
      ((Itt K a).stop i H ∧ Qd H) ∨ ((Itt K a).go i H ∧ ∃ Nx : Hp → Prop, (∀ H', Nx H' → ∃ m', m' < m ∧ W (i + 1) m' H') ∧ ∀ x H', (Itt K a).yld i H x H' → g x (wipe σ vs) H' fun σ2 H2 => wipe σ2 vs = wipe σ vs ∧ tt σ2 H2 fun b H3 =>
        if b = true then te σ2 H3 fun y H4 => ∃ acc, H4 D = some (.lst acc) ∧ acc.length < sizeLine ∧ Nx (upd H4 D (.lst (acc ++ [y]))) else Nx H3) := by
  have el := hx.length
  refine lc_tup (xs := xs) (LcP H1 D R' zs t f) (lcP_zero hD) (fun i H _ p => sqT_same p.1 hS) (fun i x H hi p => ?_) (fun H p => ?_)
  · obtain ⟨z, e, r⟩ := hx.get hi
    exact step i x z H _ _ e p.1 (mR _ _ _ _ p.1 r) (fun ht y H4 s r => lcP_put hD mR' hz e p ht s r) (fun ht H3 s => lcP_skip mR' e p ht s)
  · obtain ⟨s1, ys, hd, a2⟩ := p
    rw [el, List.take_length] at a2
    exact fin ys H s1 hd a2
/-- over a range -/
theorem lcM_range {lo : Int} {n : Nat} (t : Nat → Bool) (f : Nat → β) (hD : H1 D = none) (mR' : ∀ H H' x z, KeepL H H' → R' H x z → R' H' x z) (hz : n < sizeLine)
    (step : ∀ (i : Nat) (H : Hp) (C : V → Hp → Prop) (C0 : Hp → Prop), i < n → (∀ b o, H1 b = some o → H b = some o) →
      (t i = true → ∀ y H4, (∀ b o, H b = some o → H4 b = some o) → R' H4 y (f i) → C y H4) → (t i = false → ∀ H3, (∀ b o, H b = some o → H3 b = some o) → C0 H3) →
      g (.int (lo + i)) (wipe σ vs) H fun σ2 H2 => wipe σ2 vs = wipe σ vs ∧ tt σ2 H2 fun b H3 => if b = true then te σ2 H3 C else C0 H3)
    (fin : ∀ ys H, (∀ b o, H1 b = some o → H b = some o) → H D = some (.lst ys) → All2 (R' H) ys (((List.range n).filter t).map f) → Qd H) :
    ∃ W : Nat → Nat → Hp → Prop, (∃ m, W 0 m (upd H1 D (.lst []))) ∧ ∀ i m H, W i m H →
      ((Itr lo n).stop i H ∧ Qd H) ∨ ((Itr lo n).go i H ∧ ∃ Nx : Hp → Prop, (∀ H', Nx H' → ∃ m', m' < m ∧ W (i + 1) m' H') ∧ ∀ x H', (Itr lo n).yld i H x H' → g x (wipe σ vs) H' fun σ2 H2 => wipe σ2 vs = wipe σ vs ∧ tt σ2 H2 fun b H3 =>
        if b = true then te σ2 H3 fun y H4 => ∃ acc, H4 D = some (.lst acc) ∧ acc.length < sizeLine ∧ Nx (upd H4 D (.lst (acc ++ [y]))) else Nx H3) := by
  refine lc_range (LcP H1 D R' (List.range n) t f) (lcP_zero hD) (fun i H hi p => ?_) (fun H p => ?_)
  · have e : (List.range n)[i]? = some i := List.getElem?_range hi
    exact step i H _ _ hi p.1 (fun ht y H4 s r => lcP_put hD mR' (by rw [List.length_range]; exact hz) e p ht s r) (fun ht H3 s => lcP_skip mR' e p ht s)
  · obtain ⟨s1, ys, hd, a2⟩ := p
    have e2 : (List.range n).take n = List.range n := List.take_of_length_le (by rw [List.length_range]; exact Nat.le_refl _)
    rw [e2] at a2
    exact fin ys H s1 hd a2
end
end L2

set_option Elab.async false
set_option linter.all false
set_option maxRecDepth 100000
set_option maxHeartbeats 4000000
/-! IntsKit: tuples and lists of ints as data. -/
namespace L2
open PySem
def tI (ns : List Int) : PyData := .tuple (ns.map PyData.int)
def lI (ns : List Int) : PyData := .list (ns.map PyData.int)
theorem dp_ints {K : PySem.W.Frag} {H : Hp} : ∀ ns : List Int, DpAll K H (ns.map V.int) (ns.map PyData.int)
  | [] => .nil
  | n :: r => .cons (.int n) (dp_ints r)
theorem dp_tI {K : PySem.W.Frag} {H : Hp} {a : Addr} {ns : List Int} (h : SqT K H a (ns.map V.int)) : Dp K H (.ref a) (tI ns) := .tup h (dp_ints ns)
theorem dp_lI {K : PySem.W.Frag} {H : Hp} {a : Addr} {ns : List Int} (h : SqL K H a (ns.map V.int)) : Dp K H (.ref a) (lI ns) := .lst h (dp_ints ns)
theorem shaped_lI (ns : List Int) : SeqAt.shaped (lI ns) = true := PySem.W.ke_shaped_ints ns
theorem shaped_tI (ns : List Int) : SeqAt.shaped (tI ns) = true := by
  simp [tI, SeqAt.shaped, PyData.canLay0, PyData.depth, PySem.W.ke_canLayAll0, PySem.W.ke_depthAll]
theorem eqvAll_ints : ∀ ns ms : List Int, PyData.eqvAll (ns.map PyData.int) (ms.map PyData.int) = decide (ns = ms)
  | [], [] => by simp [PyData.eqvAll]
  | [], _ :: _ => by simp [PyData.eqvAll]
  | _ :: _, [] => by simp [PyData.eqvAll]
  | n :: r, k :: q => by
    simp only [List.map_cons, PyData.eqvAll, PyData.eqv, eqvAll_ints r q]
    by_cases h : n = k <;> simp [h]
theorem eqv_tI (ns ms : List Int) : PyData.eqv (tI ns) (tI ms) = decide (ns = ms) := by
  unfold tI
  simp only [PyData.eqv]
  exact eqvAll_ints ns ms
theorem eqv_lI (ns ms : List Int) : PyData.eqv (lI ns) (lI ms) = decide (ns = ms) := by
  unfold lI
  simp only [PyData.eqv]
  exact eqvAll_ints ns ms
theorem depth_tI (ns : List Int) : (tI ns).depth = 1 := by simp [tI, PyData.depth, PySem.W.ke_depthAll]
theorem flat_ints (ns : List Int) : (ns.map V.int).all flatV = true := by
  rw [List.all_map, List.all_eq_true]
  intro n _
  rfl
theorem inV_ints (k : Int) (ns : List Int) : inV (.int k) (ns.map V.int) = ns.any (· == k) := by
  unfold inV
  rw [List.any_map]
  rfl
/-- a tuple of ints -/
def RTup (H : Hp) (x : V) (ns : List Int) : Prop := ∃ p, x = .ref p ∧ H p = some (.tup (ns.map V.int))
theorem rtup_keep (H H' : Hp) (x : V) (ns : List Int) (k : KeepL H H') (r : RTup H x ns) : RTup H' x ns := by
  obtain ⟨p, rfl, e⟩ := r
  exact ⟨p, rfl, k _ _ e fun _ z => by cases z⟩
theorem rtup_same (H H' : Hp) (x : V) (ns : List Int) (s : ∀ b o, H b = some o → H' b = some o) (r : RTup H x ns) : RTup H' x ns := rtup_keep H H' x ns (.of s) r
def RInt (_ : Hp) (x : V) (n : Int) : Prop := x = .int n
theorem rint_keep (H H' : Hp) (x : V) (n : Int) (_ : KeepL H H') (r : RInt H x n) : RInt H' x n := r
theorem rint_map {H : Hp} {ys : List V} {ns : List Int} (h : All2 (RInt H) ys ns) : ys = ns.map V.int := All2.eq_map (f := V.int) h
/-- tuples of ints by their order -/
def leT (a b : List Int) : Bool := dle tI a b
def sortT (xs : List (List Int)) : List (List Int) := isort leT xs
theorem toks_tI (ns : List Int) : ∃ r, PySem.W.keyToks (tI ns) = r := ⟨_, rfl⟩
end L2
namespace L2
open PySem
theorem toksAll_inj : ∀ {ns ms : List Int}, PySem.W.keyToksAll (ns.map PyData.int) = PySem.W.keyToksAll (ms.map PyData.int) → ns = ms
  | [], [], _ => rfl
  | [], m :: r, h => by simp [PySem.W.keyToksAll] at h
  | n :: r, [], h => by simp [PySem.W.keyToksAll] at h
  | n :: r, m :: q, h => by
    simp only [List.map_cons, PySem.W.keyToksAll, PySem.W.keyToks, List.cons_append, List.nil_append] at h
    injection h with _ h
    injection h with h1 h2
    injection h1 with h1
    rw [h1, toksAll_inj h2]
theorem toks_inj {ns ms : List Int} (h : PySem.W.keyToks (tI ns) = PySem.W.keyToks (tI ms)) : ns = ms := by
  unfold tI at h
  simp only [PySem.W.keyToks] at h
  exact toksAll_inj h
theorem zip_snd {α β : Type} {R : α → β → Prop} {xs : List α} {zs : List β} (h : All2 R xs zs) : (xs.zip zs).map (·.2) = zs ∧ (∀ q ∈ xs.zip zs, R q.1 q.2) ∧ (xs.zip zs).map (·.1) = xs := by
  induction h with
  | nil => exact ⟨rfl, fun q hq => (by cases hq), rfl⟩
  | cons h t ih =>
    refine ⟨?_, fun q hq => ?_, ?_⟩
    · rw [List.zip_cons_cons, List.map_cons, ih.1]
    · rw [List.zip_cons_cons] at hq
      rcases List.mem_cons.mp hq with rfl | hq
      · exact h
      · exact ih.2.1 q hq
    · rw [List.zip_cons_cons, List.map_cons, ih.2.2]
theorem all2_of_pairs {α β : Type} {R : α → β → Prop} : ∀ {qs : List (α × β)}, (∀ q ∈ qs, R q.1 q.2) → All2 R (qs.map (·.1)) (qs.map (·.2))
  | [], _ => .nil
  | q :: qs, h => .cons (h q List.mem_cons_self) (all2_of_pairs fun p hp => h p (List.mem_cons_of_mem _ hp))
def prD (q : V × List Int) : V × PyData := (q.1, tI q.2)
theorem sorted_tups {R : V → List Int → Prop} {xs : List V} {zs : List (List Int)} (h : All2 R xs zs) : All2 R ((((xs.zip zs).map prD).mergeSort (PySem.W.dataLe false (·.2))).map (·.1)) (sortT zs) := by
  obtain ⟨e2, hR, _⟩ := zip_snd h
  have h1 := List.map_mergeSort (f := prD) (r := dle fun q : V × List Int => tI q.2) (s := PySem.W.dataLe false (·.2)) (l := xs.zip zs) fun a _ b _ => rfl
  rw [← h1, List.map_map]
  have hp := List.mergeSort_perm (xs.zip zs) (dle fun q : V × List Int => tI q.2)
  have hs : ((xs.zip zs).mergeSort (dle fun q : V × List Int => tI q.2)).Pairwise (fun x y => dle (fun q : V × List Int => tI q.2) x y = true) := List.pairwise_mergeSort (fun a b c => dle_trans _ a b c) (fun a b => dle_total _ a b) _
  have e3 : ((xs.zip zs).mergeSort (dle fun q : V × List Int => tI q.2)).map (·.2) = sortT zs := by
    refine sorted_uniq leT (fun x _ y _ a b => toks_inj (dle_anti a b)) ?_ ?_ (isort_sorted leT (dle_trans tI) (dle_total tI) zs)
    · have q := (hp.map (·.2)).trans (by rw [e2])
      exact q.trans (isort_perm leT zs).symm
    · rw [List.pairwise_map]
      exact hs
  rw [← e3]
  exact all2_of_pairs fun q hq => hR q (hp.mem_iff.mp hq)
theorem alike_ints : ∀ ns ms : List Int, PySem.W.alikeAll (ns.map PyData.int) (ms.map PyData.int) = true
  | [], [] => rfl
  | [], _ :: _ => rfl
  | _ :: _, [] => rfl
  | n :: r, m :: q => by simp [PySem.W.alikeAll, PySem.W.alike, alike_ints r q]
/-- sorted(xs) of tuples of ints, none empty -/
theorem sortedT_ok {K : PySem.W.Frag} {H : Hp} {a : Addr} {xs : List V} {zs : List (List Int)} {Q : VK} (hS : H a = some (.lst xs)) (h : All2 (RTup H) xs zs) (hne : ∀ z ∈ zs, z ≠ [])
    (k : ∀ p ys, H p = none → All2 (RTup H) ys (sortT zs) → Q (.ref p) (upd H p (.lst ys))) : rSortedD K [V.ref a] H Q := by
  obtain ⟨e2, hR, e1⟩ := zip_snd h
  have em : ((xs.zip zs).map prD).map (·.1) = xs := by
    rw [List.map_map]
    exact e1
  have ed : ((xs.zip zs).map prD).map (·.2) = zs.map tI := by
    rw [List.map_map]
    conv => rhs; rw [← e2, List.map_map]
    rfl
  refine ⟨a, (xs.zip zs).map prD, rfl, by rw [em]; exact .of hS, fun b hb => ?_, ?_, ?_, fun b hb => ?_, fun p hp => k p _ hp (sorted_tups h)⟩
  · obtain ⟨q, hq, rfl⟩ := List.mem_map.mp hb
    obtain ⟨p, e, hp⟩ := hR q hq
    show Dp K H q.1 (tI q.2)
    rw [e]
    exact dp_tI (.of hp)
  · rw [ed]
    intro d hd d' hd'
    obtain ⟨n, _, rfl⟩ := List.mem_map.mp hd
    obtain ⟨m, _, rfl⟩ := List.mem_map.mp hd'
    simp only [tI, PySem.W.alike]
    exact alike_ints n m
  · rw [ed]
    refine .inl fun d hd => ?_
    obtain ⟨n, hn, rfl⟩ := List.mem_map.mp hd
    cases n with
    | nil => exact absurd rfl (hne _ hn)
    | cons n r => exact ⟨.int n, r.map PyData.int, rfl⟩
  · obtain ⟨q, hq, rfl⟩ := List.mem_map.mp hb
    show (tI q.2).depth ≤ 50
    rw [depth_tI]
    decide
end L2
namespace L2
open PySem
theorem catA_ok {K : PySem.W.Frag} {H : Hp} {a b : Addr} {xs ys : List V} {Q : VK} (ha : H a = some (.tup xs)) (hb : H b = some (.tup ys)) (hl : xs.length + ys.length ≤ sizeLine) (k : ∀ p H', Same H H' → H' p = some (.tup (xs ++ ys)) → Q (.ref p) H') : rCatA K (.ref a) (.ref b) H Q :=
  ⟨a, b, xs, ys, rfl, rfl, .of ha, .of hb, hl, fun e => k _ _ (.refl _) (by rw [e]; exact hb), fun _ e => k _ _ (.refl _) (by rw [e, List.append_nil]; exact ha), fun _ _ p hp => k _ _ (fun c u e => by rw [upd_ne (ne_of_none e hp)]; exact e) upd_same⟩
theorem cutV_whole (xs : List V) (lo hi : Option Int) (h : HT.sIx xs.length 0 lo = 0 ∧ HT.sIx xs.length xs.length hi = xs.length) : cutV xs lo hi = xs := by
  unfold cutV
  rw [h.1, h.2]
  simp
theorem slA_ok {K : PySem.W.Frag} {H : Hp} {a : Addr} {xs : List V} {lo hi : Option Int} {Q : VK} (ha : H a = some (.tup xs)) (k : ∀ p H', Same H H' → H' p = some (.tup (cutV xs lo hi)) → Q (.ref p) H') : rSlA K (.ref a) lo hi H Q :=
  ⟨a, xs, rfl, .of ha, fun e => k _ _ (.refl _) (by rw [cutV_whole xs lo hi e]; exact ha), fun _ p hp => k _ _ (fun c u e => by rw [upd_ne (ne_of_none e hp)]; exact e) upd_same⟩
end L2
namespace L2
open PySem PySem.Spec PyProof.Rows
section
variable {X : Cx}
/-- xs + ys of lists that may be read only -/
def rCatS (K : PySem.W.Frag) : R2 := fun x y H Q => ∃ l b xs zs, x = .ref l ∧ y = .ref b ∧ SqL K H l xs ∧ SqL K H b zs ∧ xs.length + zs.length ≤ sizeLine ∧ ∀ p, H p = none → Q (.ref p) (upd H p (.lst (xs ++ zs)))
theorem op_catS : OpR X (binaryOp .Add) (rCatS X.K) := by
  intro pins s σ H x y v u Q I rx ry h
  obtain ⟨l, b, xs, zs, rfl, rfl, ha, hb, hz, q⟩ := h
  cases rx
  cases ry
  obtain ⟨its, r1, p1, _⟩ := I.list ha
  obtain ⟨its2, r2, p2, _⟩ := I.list hb
  obtain ⟨⟨cls, dd, data, sl⟩, n, ho, hc, hdn, hd⟩ := p1
  obtain ⟨⟨cls2, dd2, data2, sl2⟩, n2, ho2, hc2, hdn2, hd2⟩ := p2
  simp only at hc hdn hd hc2 hdn2 hd2
  subst hc hdn hd hc2 hdn2 hd2
  have l1 := r1.length
  have l2 := r2.length
  refine concat_meets ⟨_, ho, rfl⟩ ⟨_, ho2, rfl⟩ noFill_list_add seq_list_add PySem.F.slot_list_add PySem.F.entry_list_add (PySem.F.args_list_add_2 _ _)
    (list_addW l b its.toArray its2.toArray n n2 none none sl sl2 (by rw [List.size_toArray, List.size_toArray]; omega)) ⟨ho, ho2, ?_⟩
  have ea : its.toArray ++ its2.toArray = (its ++ its2).toArray := by simp
  rw [ea]
  exact ⟨.ref _, _, I.lnew (t' := s.toks) (r1.append r2) (by rw [List.length_append]; omega), rfl, q _ I.fresh⟩
end
end L2

set_option Elab.async false
set_option linter.all false
set_option maxRecDepth 100000
set_option maxHeartbeats 4000000
/-! SortGen: sorted(list) of things that are told by data: the plain isort of what tells them. -/
namespace L2
open PySem PySem.Spec PyProof.Rows EK
section
variable {β : Type} (key : β → PyData) (inj : ∀ a b, PySem.W.keyToks (key a) = PySem.W.keyToks (key b) → a = b)
def prG (q : V × β) : V × PyData := (q.1, key q.2)
include inj
theorem sorted_gen {R : V → β → Prop} {xs : List V} {zs : List β} (h : All2 R xs zs) : All2 R ((((xs.zip zs).map (prG key)).mergeSort (PySem.W.dataLe false (·.2))).map (·.1)) (isort (dle key) zs) := by
  obtain ⟨e2, hR, _⟩ := zip_snd h
  have h1 := List.map_mergeSort (f := prG key) (r := dle fun q : V × β => key q.2) (s := PySem.W.dataLe false (·.2)) (l := xs.zip zs) fun a _ b _ => rfl
  rw [← h1, List.map_map]
  have hp := List.mergeSort_perm (xs.zip zs) (dle fun q : V × β => key q.2)
  have hs : ((xs.zip zs).mergeSort (dle fun q : V × β => key q.2)).Pairwise (fun x y => dle (fun q : V × β => key q.2) x y = true) := List.pairwise_mergeSort (fun a b c => dle_trans _ a b c) (fun a b => dle_total _ a b) _
  have e3 : ((xs.zip zs).mergeSort (dle fun q : V × β => key q.2)).map (·.2) = isort (dle key) zs := by
    refine sorted_uniq (dle key) (fun x _ y _ a b => inj _ _ (dle_anti a b)) ?_ ?_ (isort_sorted (dle key) (dle_trans key) (dle_total key) zs)
    · have q := (hp.map (·.2)).trans (by rw [e2])
      exact q.trans (isort_perm (dle key) zs).symm
    · rw [List.pairwise_map]
      exact hs
  rw [← e3]
  exact all2_of_pairs fun q hq => hR q (hp.mem_iff.mp hq)
theorem sortedG_ok {K : PySem.W.Frag} {H : Hp} {a : Addr} {R : V → β → Prop} {xs : List V} {zs : List β} {Q : VK} (hS : H a = some (.lst xs)) (h : All2 R xs zs) (hd : ∀ x z, R x z → Dp K H x (key z))
    (al : ∀ x y, PySem.W.alike (key x) (key y) = true) (so : PySem.W.Sortable (zs.map key)) (dep : ∀ z, (key z).depth ≤ 50)
    (k : ∀ p ys, H p = none → All2 R ys (isort (dle key) zs) → Q (.ref p) (upd H p (.lst ys))) : rSortedD K [V.ref a] H Q := by
  obtain ⟨e2, hR, e1⟩ := zip_snd h
  have em : ((xs.zip zs).map (prG key)).map (·.1) = xs := by
    rw [List.map_map]
    exact e1
  have ed : ((xs.zip zs).map (prG key)).map (·.2) = zs.map key := by
    rw [List.map_map]
    conv => rhs; rw [← e2, List.map_map]
    rfl
  refine ⟨a, (xs.zip zs).map (prG key), rfl, by rw [em]; exact .of hS, fun b hb => ?_, ?_, ?_, fun b hb => ?_, fun p hp => k p _ hp (sorted_gen key inj h)⟩
  · obtain ⟨q, hq, rfl⟩ := List.mem_map.mp hb
    exact hd _ _ (hR q hq)
  · rw [ed]
    intro d hd d' hd'
    obtain ⟨n, _, rfl⟩ := List.mem_map.mp hd
    obtain ⟨m, _, rfl⟩ := List.mem_map.mp hd'
    exact al n m
  · rw [ed]
    exact so
  · obtain ⟨q, hq, rfl⟩ := List.mem_map.mp hb
    exact dep _
end
end L2

set_option Elab.async false
set_option linter.all false
set_option maxRecDepth 100000
set_option maxHeartbeats 4000000
/-! SetTup: len(set(t)), t a tuple of texts. -/
namespace L2
open PySem PySem.Spec PyProof.Rows
/-- the unlike ones, in the order of their first -/
def ddS (l : List Str) : List Str := l.foldl (fun acc x => if x ∈ acc then acc else acc ++ [x]) []
theorem ddS_snoc (l : List Str) (x : Str) : ddS (l ++ [x]) = if x ∈ ddS l then ddS l else ddS l ++ [x] := by
  unfold ddS
  rw [List.foldl_append]
  rfl
theorem ddS_mem (l : List Str) (y : Str) : y ∈ ddS l ↔ y ∈ l := by
  have gen : ∀ (m acc : List Str), y ∈ m.foldl (fun acc x => if x ∈ acc then acc else acc ++ [x]) acc ↔ y ∈ acc ∨ y ∈ m := by
    intro m
    induction m with
    | nil => intro acc; simp
    | cons a m ih =>
      intro acc
      rw [List.foldl_cons, ih]
      by_cases h : a ∈ acc
      · rw [if_pos h]
        constructor
        · rintro (q | q)
          · exact .inl q
          · exact .inr (List.mem_cons_of_mem _ q)
        · rintro (q | q)
          · exact .inl q
          · rcases List.mem_cons.mp q with q | q
            · exact .inl (q ▸ h)
            · exact .inr q
      · rw [if_neg h, List.mem_append, List.mem_singleton, List.mem_cons]
        constructor
        · rintro ((q | q) | q)
          · exact .inl q
          · exact .inr (.inl q)
          · exact .inr (.inr q)
        · rintro (q | q | q)
          · exact .inl (.inl q)
          · exact .inl (.inr q)
          · exact .inr q
  have := gen l []
  simpa [ddS] using this
theorem ddS_len (l : List Str) : (ddS l).length ≤ l.length := by
  have gen : ∀ (m acc : List Str), (m.foldl (fun acc x => if x ∈ acc then acc else acc ++ [x]) acc).length ≤ acc.length + m.length := by
    intro m
    induction m with
    | nil => intro acc; exact Nat.le_refl _
    | cons a m ih =>
      intro acc
      rw [List.foldl_cons]
      refine Nat.le_trans (ih _) ?_
      split
      · rw [List.length_cons]; omega
      · rw [List.length_append, List.length_singleton, List.length_cons]; omega
  have := gen l []
  simpa [ddS] using this
section
variable {pr : Program} {w : World} {B : Around} {RR : Result → Shared → Prop} {it : Addr} {fq ww : List Addr} {GG : Array GenState → Array GenState → Prop} {m : Nat} {PP : Nat → Value → Prop} {TT : Nat → Shared → Prop}
theorem loop_texts (U : WalksS pr w B.in1 it fq ww GG m PP TT) (so : Addr) (hso : so ∉ fq) (ys : List Str) (hys : ys.length = m) (few : m < 64) (hv : ∀ i v, PP i v → ∃ t, v = .str (ys.getD i Str.empty) t) :
    ∀ (left i : Nat) (s : Shared), m - i = left → i ≤ m → TT i s → s.heap.SetOf (strKind pr w) so (fun q => decide (q ∈ ys.take i)) (ddS (ys.take i)).length →
      (∀ s', Moved (so :: ww) GG s s' → s'.heap.SetOf (strKind pr w) so (fun q => decide (q ∈ ys)) (ddS ys).length → RR (.ok (.ret .none)) s') →
      codeAny (model pr w) B (.builtin "set.update.loop" ⟨[.ref so, .ref it], []⟩) RR s := by
  have now : so ∉ ww := fun h => hso (U.sub _ h)
  have sub2 : ∀ b ∈ ww, b ∈ so :: ww := fun b hb => List.mem_cons_of_mem _ hb
  intro left
  induction left with
  | zero =>
    intro i s hl hi ht hS hR
    obtain rfl : i = m := by omega
    rw [← hys, List.take_length] at hS
    refine codeAny_builtin F.entry_set_update_loop ?_
    rw [Around.under_plainId F.plain_set_update_loop _]
    refine wpAny_bind (U.done s _ _ ht fun s' mv => ?_)
    obtain ⟨o, es, ep, tb, ho, rest⟩ := hS
    exact wpAny_pure (hR s' (mv.mono sub2) ⟨o, es, ep, tb, mv.heap so _ now ho, rest⟩)
  | succ left ih =>
    intro i s hl hi ht hS hR
    have him : i < m := by omega
    refine codeAny_builtin F.entry_set_update_loop ?_
    rw [Around.under_plainId F.plain_set_update_loop _]
    refine wpAny_bind (U.item i s _ _ him ht fun v s' hP ht' mv => ?_)
    obtain ⟨t, rfl⟩ := hv i v hP
    have hS' : s'.heap.SetOf (strKind pr w) so (fun q => decide (q ∈ ys.take i)) (ddS (ys.take i)).length := by
      obtain ⟨o, es, ep, tb, ho, rest⟩ := hS
      exact ⟨o, es, ep, tb, mv.heap so _ now ho, rest⟩
    have hlen := ddS_len (ys.take i)
    rw [List.length_take] at hlen
    refine wpAny_bind (wpAny_holding ?_)
    unfold setAdd
    refine wpAny_holding ?_
    refine wpAny_bind ((strKind pr w).pyHash (k := ys.getD i Str.empty) (strKind_is _ _ _ _) ?_)
    refine wpAny_setAddHashed_of (knd := strKind pr w) (s := { s' with toks := s'.toks + 1 }) (strKind_is _ _ _ _) rfl hS' (by unfold scanBound; omega) fun h' sb hS2 => ?_
    have ey : ys.take (i + 1) = ys.take i ++ [ys.getD i Str.empty] := by
      rw [List.take_succ, List.getD_eq_getElem?_getD, List.getElem?_eq_getElem (by omega)]
      rfl
    have hS3 : h'.SetOf (strKind pr w) so (fun q => decide (q ∈ ys.take (i + 1))) (ddS (ys.take (i + 1))).length := by
      rw [ey]
      refine SetOf_congr hS2 (fun q => ?_) ?_
      · by_cases h1 : q ∈ ys.take i
        · simp [h1]
        · simp [h1]
      · rw [ddS_snoc]
        by_cases h1 : ys.getD i Str.empty ∈ ys.take i
        · rw [if_pos ((ddS_mem _ _).mpr h1), if_pos (by simpa using h1)]
        · rw [if_neg (fun z => h1 ((ddS_mem _ _).mp z)), if_neg (by simpa using h1), List.length_append]
          rfl
    refine wpAny_pure ⟨plainId_quiet F.plain_set_update_loop _, ih (i + 1) _ (by omega) him (U.frame _ s' _ _ ht' (Nat.le_succ _) fun b hb o e => ?_) hS3 fun s2 mv2 hS4 => ?_⟩
    · rw [sb.2 b (fun z : b = so => hso (by rw [← z]; exact hb))]
      exact e
    · refine hR s2 (Moved.trans U.gtrans ((mv.mono sub2).then_heap (Nat.le_succ _) fun b o hb e => ?_) mv2) hS4
      rw [sb.2 b (fun z : b = so => hb (by rw [z]; exact List.mem_cons_self))]
      exact e
end
section
variable {pr : Program} {w : World} {B : Around} {EE : Value → Shared → Prop} {s : Shared}
abbrev setOb (led : Bool) : Obj := { cls := .type "set", dict := none, data := .set #[] 0 (.fresh 0 0 led) }
theorem call_set_texts {tu : Addr} {its : Array Value} {ys : List Str} {QQ : Value → Shared → Prop} (hd : B.handled = none) (ht : s.heap.IsTuple tu its) (hy : StrsAre its.toList ys) (few : ys.length < 64)
    (fin : ∀ (h' : Heap) (tk : Nat), h'.SetOf (strKind pr w) s.heap.objs.size (fun q => decide (q ∈ ys)) (ddS ys).length → (∀ b o, b < s.heap.objs.size → s.heap.get? b = some o → h'.get? b = some o) → QQ (.ref s.heap.objs.size) { s with heap := h', toks := tk }) :
    wpAny (model pr w) B (call (.type "set") [.ref tu]) QQ EE s := by
  obtain ⟨cc, tl, mro⟩ := F.called_set.mro
  have md := F.called_set.made
  have sb := F.called_set.sub
  refine wpAny_call (codeAny_of_tree ?_)
  show wpAny _ _ (callAny (.type "set") _) _ _ _
  refine wpAny_pure ⟨Code.quiet_builtin _ (by decide +kernel), codeAny_builtin F.entry_type_call ?_⟩
  rw [Around.under_plain (weight_type_call_type "set" [.ref tu] []) rfl]
  have q1 := F.called_set.notType
  have q2 := F.called_set.canCreate
  have q3 := F.typeCall_set_1 (.ref tu)
  repeat (any_goals (first | assumption | wp_step))
  refine codeAny_mono (code_set_new_1 (.ref tu) (E := EE) (Q₁ := fun ob s1 => ∃ led : Bool, ob = .ref s.heap.objs.size ∧ s1 = { s with heap := s.heap.push (setOb led) }) fun led => ⟨led, rfl, rfl⟩) fun r s1 hr => ?_
  cases r with
  | error e => exact hr
  | ok fl =>
    cases fl with
    | ret ob =>
      obtain ⟨led, rfl, rfl⟩ := hr
      have gS : (s.heap.push (setOb led)).get? s.heap.objs.size = some (setOb led) := Heap.get?_push_size _ rfl
      have tS : Shared.TypeIs { s with heap := s.heap.push (setOb led) } (.ref s.heap.objs.size) "set" := ⟨_, gS, rfl⟩
      have i1 := F.called_set.init.lookup
      have i2 := F.called_set.init.bind (.ref s.heap.objs.size)
      repeat (any_goals (first | assumption | wp_step))
      refine codeAny_mono (codeAny_call_builtin (R := wants (fun r s2 => r = .none ∧ ∃ h' tk, s2 = { s with heap := h', toks := tk } ∧ h'.SetOf (strKind pr w) s.heap.objs.size (fun q => decide (q ∈ ys)) (ddS ys).length ∧ (∀ b o, b < s.heap.objs.size → s.heap.get? b = some o → h'.get? b = some o)) EE) F.called_set.init.plain F.entry_set_init (check_set_init_1 tS ?_)) fun r2 s2 hr2 => ?_
      · obtain ⟨ot, got, ct, nt, dt⟩ := ht
        obtain ⟨otc, otd, otx, ots⟩ := ot
        simp only at ct dt
        subst ct
        subst dt
        have got2 : (s.heap.push (setOb led)).get? tu = some { cls := .type "tuple", dict := otd, data := .seq its nt, slots := ots } := Heap.get?_push_of_some _ got
        have u1 := F.sub_tuple_set
        have u2 := F.sub_tuple_frozenset
        have u3 : (Value.type "tuple" == Value.type "dict") = false := by decide
        have tup1 : (s.heap.push (setOb led)).IsTuple tu its := ⟨_, got2, rfl, nt, rfl⟩
        unfold Builtin.«set.__init__» noKeywords Builtin.Frozenset.updateFrom
        generalize hPI : pyIter = PI
        wp_walk
        subst hPI
        refine wpAny_pyIter_tuple tup1 ?_
        refine wpAny_bind (wpAny_runValue ?_)
        have lt1 : tu < s.heap.objs.size := Heap.lt_size got
        have hd3 : B.in1.in1.in1.handled = none := by simp [hd]
        have ne1 : tu ≠ (s.heap.push (setOb led)).objs.size := by
          rw [Heap.size_push]
          exact Nat.ne_of_lt (Nat.lt_succ_of_lt lt1)
        have so1 : s.heap.objs.size ∉ [(s.heap.push (setOb led)).objs.size, tu] := by
          rw [Heap.size_push]
          simp only [List.mem_cons, List.mem_singleton, List.not_mem_nil, or_false, not_or]
          exact ⟨Nat.ne_of_lt (Nat.lt_succ_self _), Nat.ne_of_gt lt1⟩
        have len1 : ys.length = its.size := by rw [← StrsAre.len_eq hy, Array.length_toList]
        refine loop_texts ((Walks.tuple hd3 _ tu ne1 its).toS) s.heap.objs.size so1 ys len1 (by omega) (fun i v e => SS.strs_at hy i v (by rw [Array.getElem?_toList]; exact e)) (its.size - 0) 0 _ (by omega) (Nat.zero_le _)
          ⟨⟨_, Heap.get?_push_size _ rfl, rfl, rfl⟩, tup1.push _⟩ ?start ?done
        case start =>
          have g2 : ((s.heap.push (setOb led)).push { cls := .type "tuple_iterator", data := .fields #[.ref tu, .int 0 0] }).get? s.heap.objs.size = some (setOb led) := Heap.get?_push_of_some _ gS
          exact SetOf_congr ((setObjOf_fresh (knd := strKind pr w) led).setOf g2 (by unfold scanBound; omega)) (fun q => by simp) rfl
        case done =>
          intro s' mv hS
          obtain ⟨h', g', d', tk', os'⟩ := s'
          have eg : g' = s.gens := mv.gens
          have ed : d' = s.drawn := mv.drawn
          have eo : os' = s.os := mv.os
          subst eg
          subst ed
          subst eo
          refine wpAny_pure ?_
          show wpAny _ _ (ret Value.none) _ _ _
          refine wpAny_pure ⟨rfl, h', tk', rfl, hS, fun b o hb e => ?_⟩
          have n1 : b ≠ s.heap.objs.size := Nat.ne_of_lt hb
          have n2 : b ≠ (s.heap.push (setOb led)).objs.size := by
            rw [Heap.size_push]
            exact Nat.ne_of_lt (Nat.lt_succ_of_lt hb)
          exact mv.heap b o (by simp only [List.mem_cons, List.mem_singleton, List.not_mem_nil, or_false, not_or]; exact ⟨n1, n2⟩) (Heap.get?_push_of_some _ (Heap.get?_push_of_some _ e))
      · cases r2 with
        | error e => exact hr2
        | ok fl2 =>
          cases fl2 with
          | ret r =>
            obtain ⟨rfl, h', tk, rfl, hS, hk⟩ := hr2
            repeat (any_goals (first | assumption | wp_step))
            exact fin _ _ hS hk
          | _ => exact hr2.elim
    | _ => exact hr.elim
end
section
variable {X : Cx}
def tLenSetT (K : PySem.W.Frag) (ta : TE) : TE := fun σ H Q => ta σ H fun x H1 => ∃ (l : Addr) (ys : List Str), x = V.ref l ∧ SqT K H1 l (ys.map V.str) ∧ ys.length < 64 ∧ Q (.int ((ddS ys).length : Nat)) H1
theorem pe_lenSetT {a : Expr} {ta : TE} {p p2 q pos : Pos} (hc : X.calm = true) (hg : Gl X "len") (hm : X.mg "len" = none) (hg2 : Gl X "set") (hm2 : X.mg "set" = none) (ha : PE X a ta)
    (na : starEach [a] X.env = (false, eval a X.env) :: starEach [] X.env := by rfl) : PE X (.Call (.Name "len" p) [.Call (.Name "set" p2) [a] [] q] [] pos) (tLenSetT X.K ta) := by
  refine ⟨fun pins s σ H Q I h => ?_⟩
  refine Call_ (ld_blt I hg hm boot_len ?_)
  refine callWith_builtin1 (args_cons ?_ rfl) rfl rfl
  refine Call_ (ld_blt I hg2 hm2 boot_set ?_)
  refine callWith_type1 (args_cons (thn (ha.run pins s σ H _ I h) fun v s1 ⟨x, H1, I1, r1, q1⟩ => args_nil ?_) na) na rfl
  obtain ⟨l, ys, rfl, hq, few, q1⟩ := q1
  cases r1
  obtain ⟨its, r, pl, hz⟩ := I1.tuple hq
  have small := ddS_len ys
  refine call_set_texts (I1.ok.hd hc) pl (ys := ys) (by simpa using strsAre_of r) few fun h' tk hS hk => ?_
  refine args_nil ?_
  obtain ⟨o, es, ep, t, ho, hex, hd, _, _, _, hf, hn⟩ := hS
  have I2 : Inv X pins σ H1 { s1 with heap := h', toks := tk } := I1.kept fun b o e => hk b o (Heap.lt_size e) e
  exact call_len_set ho hex hd hf (by rw [hn] <;> omega) ⟨.int ((ddS ys).length : Nat), H1, I2.tok _, ⟨_, by rw [hn]⟩, q1⟩
end
end L2

set_option Elab.async false
set_option linter.all false
set_option maxRecDepth 100000
set_option maxHeartbeats 4000000
/-! SetStr: len(set(z)), z a text. -/
namespace L2
open PySem PySem.Spec PyProof.Rows
def signsS (x : Str) : List Str := x.cps.toList.map fun c => ⟨#[c]⟩
section
variable {pr : Program} {w : World} {B : Around} {RR : Result → Shared → Prop} {it : Addr} {fq ww : List Addr} {GG : Array GenState → Array GenState → Prop} {m : Nat} {PP : Nat → Value → Prop} {TT : Nat → Shared → Prop}
theorem loop_signs (U : WalksS pr w B.in1 it fq ww GG m PP TT) (so : Addr) (hso : so ∉ fq) (ys : List Str) (hys : ys.length = m) (few : m < 4000) (hv : ∀ i v, PP i v → ∃ t, v = .str (ys.getD i Str.empty) t) :
    ∀ (left i : Nat) (s : Shared), m - i = left → i ≤ m → TT i s → s.heap.SetOf (strKind pr w) so (fun q => decide (q ∈ ys.take i)) (ddS (ys.take i)).length →
      (∀ s', Moved (so :: ww) GG s s' → s'.heap.SetOf (strKind pr w) so (fun q => decide (q ∈ ys)) (ddS ys).length → RR (.ok (.ret .none)) s') →
      codeAny (model pr w) B (.builtin "set.update.loop" ⟨[.ref so, .ref it], []⟩) RR s := by
  have now : so ∉ ww := fun h => hso (U.sub _ h)
  have sub2 : ∀ b ∈ ww, b ∈ so :: ww := fun b hb => List.mem_cons_of_mem _ hb
  intro left
  induction left with
  | zero =>
    intro i s hl hi ht hS hR
    obtain rfl : i = m := by omega
    rw [← hys, List.take_length] at hS
    refine codeAny_builtin F.entry_set_update_loop ?_
    rw [Around.under_plainId F.plain_set_update_loop _]
    refine wpAny_bind (U.done s _ _ ht fun s' mv => ?_)
    obtain ⟨o, es, ep, tb, ho, rest⟩ := hS
    exact wpAny_pure (hR s' (mv.mono sub2) ⟨o, es, ep, tb, mv.heap so _ now ho, rest⟩)
  | succ left ih =>
    intro i s hl hi ht hS hR
    have him : i < m := by omega
    refine codeAny_builtin F.entry_set_update_loop ?_
    rw [Around.under_plainId F.plain_set_update_loop _]
    refine wpAny_bind (U.item i s _ _ him ht fun v s' hP ht' mv => ?_)
    obtain ⟨t, rfl⟩ := hv i v hP
    have hS' : s'.heap.SetOf (strKind pr w) so (fun q => decide (q ∈ ys.take i)) (ddS (ys.take i)).length := by
      obtain ⟨o, es, ep, tb, ho, rest⟩ := hS
      exact ⟨o, es, ep, tb, mv.heap so _ now ho, rest⟩
    have hlen := ddS_len (ys.take i)
    rw [List.length_take] at hlen
    refine wpAny_bind (wpAny_holding ?_)
    unfold setAdd
    refine wpAny_holding ?_
    refine wpAny_bind ((strKind pr w).pyHash (k := ys.getD i Str.empty) (strKind_is _ _ _ _) ?_)
    refine wpAny_setAddHashed_of (knd := strKind pr w) (s := { s' with toks := s'.toks + 1 }) (strKind_is _ _ _ _) rfl hS' (by unfold scanBound; omega) fun h' sb hS2 => ?_
    have ey : ys.take (i + 1) = ys.take i ++ [ys.getD i Str.empty] := by
      rw [List.take_succ, List.getD_eq_getElem?_getD, List.getElem?_eq_getElem (by omega)]
      rfl
    have hS3 : h'.SetOf (strKind pr w) so (fun q => decide (q ∈ ys.take (i + 1))) (ddS (ys.take (i + 1))).length := by
      rw [ey]
      refine SetOf_congr hS2 (fun q => ?_) ?_
      · by_cases h1 : q ∈ ys.take i
        · simp [h1]
        · simp [h1]
      · rw [ddS_snoc]
        by_cases h1 : ys.getD i Str.empty ∈ ys.take i
        · rw [if_pos ((ddS_mem _ _).mpr h1), if_pos (by simpa using h1)]
        · rw [if_neg (fun z => h1 ((ddS_mem _ _).mp z)), if_neg (by simpa using h1), List.length_append]
          rfl
    refine wpAny_pure ⟨plainId_quiet F.plain_set_update_loop _, ih (i + 1) _ (by omega) him (U.frame _ s' _ _ ht' (Nat.le_succ _) fun b hb o e => ?_) hS3 fun s2 mv2 hS4 => ?_⟩
    · rw [sb.2 b (fun z : b = so => hso (by rw [← z]; exact hb))]
      exact e
    · refine hR s2 (Moved.trans U.gtrans ((mv.mono sub2).then_heap (Nat.le_succ _) fun b o hb e => ?_) mv2) hS4
      rw [sb.2 b (fun z : b = so => hb (by rw [z]; exact List.mem_cons_self))]
      exact e
end
section
variable {pr : Program} {w : World} {B : Around} {EE : Value → Shared → Prop} {s : Shared}
theorem call_set_sign {x : Str} {tx : Tok} {QQ : Value → Shared → Prop} (hd : B.handled = none) (few : x.cps.size < 4000)
    (fin : ∀ (h' : Heap) (tk : Nat), h'.SetOf (strKind pr w) s.heap.objs.size (fun q => decide (q ∈ signsS x)) (ddS (signsS x)).length → (∀ b o, b < s.heap.objs.size → s.heap.get? b = some o → h'.get? b = some o) → QQ (.ref s.heap.objs.size) { s with heap := h', toks := tk }) :
    wpAny (model pr w) B (call (.type "set") [.str x tx]) QQ EE s := by
  obtain ⟨cc, tl, mro⟩ := F.called_set.mro
  have md := F.called_set.made
  have sb := F.called_set.sub
  refine wpAny_call (codeAny_of_tree ?_)
  show wpAny _ _ (callAny (.type "set") _) _ _ _
  refine wpAny_pure ⟨Code.quiet_builtin _ (by decide +kernel), codeAny_builtin F.entry_type_call ?_⟩
  rw [Around.under_plain (weight_type_call_type "set" [.str x tx] []) rfl]
  have q1 := F.called_set.notType
  have q2 := F.called_set.canCreate
  have q3 := F.typeCall_set_1 (.str x tx)
  repeat (any_goals (first | assumption | wp_step))
  refine codeAny_mono (code_set_new_1 (.str x tx) (E := EE) (Q₁ := fun ob s1 => ∃ led : Bool, ob = .ref s.heap.objs.size ∧ s1 = { s with heap := s.heap.push (setOb led) }) fun led => ⟨led, rfl, rfl⟩) fun r s1 hr => ?_
  cases r with
  | error e => exact hr
  | ok fl =>
    cases fl with
    | ret ob =>
      obtain ⟨led, rfl, rfl⟩ := hr
      have gS : (s.heap.push (setOb led)).get? s.heap.objs.size = some (setOb led) := Heap.get?_push_size _ rfl
      have tS : Shared.TypeIs { s with heap := s.heap.push (setOb led) } (.ref s.heap.objs.size) "set" := ⟨_, gS, rfl⟩
      have i1 := F.called_set.init.lookup
      have i2 := F.called_set.init.bind (.ref s.heap.objs.size)
      repeat (any_goals (first | assumption | wp_step))
      refine codeAny_mono (codeAny_call_builtin (R := wants (fun r s2 => r = .none ∧ ∃ h' tk, s2 = { s with heap := h', toks := tk } ∧ h'.SetOf (strKind pr w) s.heap.objs.size (fun q => decide (q ∈ signsS x)) (ddS (signsS x)).length ∧ (∀ b o, b < s.heap.objs.size → s.heap.get? b = some o → h'.get? b = some o)) EE) F.called_set.init.plain F.entry_set_init (check_set_init_1 tS ?_)) fun r2 s2 hr2 => ?_
      · have u1 : (Value.type "str" == Value.type "dict") = false := by decide
        have u2 := F.sub_str_set
        have u3 := F.sub_str_frozenset
        unfold Builtin.«set.__init__» noKeywords Builtin.Frozenset.updateFrom
        generalize hPI : pyIter = PI
        wp_walk
        subst hPI
        refine wpAny_pyIter_str fun o St W st0 => ?_
        refine wpAny_bind (wpAny_runValue ?_)
        have hd3 : B.in1.in1.in1.handled = none := by simp [hd]
        have so1 : s.heap.objs.size ∉ [(s.heap.push (setOb led)).objs.size] := by
          rw [Heap.size_push]
          simp only [List.mem_cons, List.mem_singleton, List.not_mem_nil, or_false, not_or]
          exact Nat.ne_of_lt (Nat.lt_succ_self _)
        have len1 : (signsS x).length = x.cps.size := by rw [signsS, List.length_map, Array.length_toList]
        refine loop_signs ((W _ hd3).toS) s.heap.objs.size so1 (signsS x) len1 (by omega) (fun i v ⟨c, u, e1, e2⟩ => ⟨u, by rw [e2, signsS, List.getD_eq_getElem?_getD, List.getElem?_map, Array.getElem?_toList, e1]; rfl⟩) (x.cps.size - 0) 0 _ (by omega) (Nat.zero_le _)
          st0 ?start ?done
        case start =>
          have g2 : ((s.heap.push (setOb led)).push o).get? s.heap.objs.size = some (setOb led) := Heap.get?_push_of_some _ gS
          exact SetOf_congr ((setObjOf_fresh (knd := strKind pr w) led).setOf g2 (by unfold scanBound; omega)) (fun q => by simp) rfl
        case done =>
          intro s' mv hS
          obtain ⟨h', g', d', tk', os'⟩ := s'
          have eg : g' = s.gens := mv.gens
          have ed : d' = s.drawn := mv.drawn
          have eo : os' = s.os := mv.os
          subst eg
          subst ed
          subst eo
          refine wpAny_pure ?_
          show wpAny _ _ (ret Value.none) _ _ _
          refine wpAny_pure ⟨rfl, h', tk', rfl, hS, fun b o hb e => ?_⟩
          have n1 : b ≠ s.heap.objs.size := Nat.ne_of_lt hb
          have n2 : b ≠ (s.heap.push (setOb led)).objs.size := by
            rw [Heap.size_push]
            exact Nat.ne_of_lt (Nat.lt_succ_of_lt hb)
          exact mv.heap b o (by simp only [List.mem_cons, List.mem_singleton, List.not_mem_nil, or_false, not_or]; exact ⟨n1, n2⟩) (Heap.get?_push_of_some _ (Heap.get?_push_of_some _ e))
      · cases r2 with
        | error e => exact hr2
        | ok fl2 =>
          cases fl2 with
          | ret r =>
            obtain ⟨rfl, h', tk, rfl, hS, hk⟩ := hr2
            repeat (any_goals (first | assumption | wp_step))
            exact fin _ _ hS hk
          | _ => exact hr2.elim
    | _ => exact hr.elim
end
section
variable {X : Cx}
def tLenSetS (ta : TE) : TE := fun σ H Q => ta σ H fun x H1 => ∃ z : Str, x = V.str z ∧ z.cps.size < 4000 ∧ Q (.int ((ddS (signsS z)).length : Nat)) H1
theorem pe_lenSetS {a : Expr} {ta : TE} {p p2 q pos : Pos} (hc : X.calm = true) (hg : Gl X "len") (hm : X.mg "len" = none) (hg2 : Gl X "set") (hm2 : X.mg "set" = none) (ha : PE X a ta)
    (na : starEach [a] X.env = (false, eval a X.env) :: starEach [] X.env := by rfl) : PE X (.Call (.Name "len" p) [.Call (.Name "set" p2) [a] [] q] [] pos) (tLenSetS ta) := by
  refine ⟨fun pins s σ H Q I h => ?_⟩
  refine Call_ (ld_blt I hg hm boot_len ?_)
  refine callWith_builtin1 (args_cons ?_ rfl) rfl rfl
  refine Call_ (ld_blt I hg2 hm2 boot_set ?_)
  refine callWith_type1 (args_cons (thn (ha.run pins s σ H _ I h) fun v s1 ⟨x, H1, I1, r1, q1⟩ => args_nil ?_) na) na rfl
  obtain ⟨z, rfl, few, q1⟩ := q1
  obtain ⟨tk0, rfl⟩ := r1
  have small := ddS_len (signsS z)
  have sl : (signsS z).length = z.cps.size := by rw [signsS, List.length_map, Array.length_toList]
  refine call_set_sign (I1.ok.hd hc) few fun h' tk hS hk => ?_
  refine args_nil ?_
  obtain ⟨o, es, ep, t, ho, hex, hd, _, _, _, hf, hn⟩ := hS
  have I2 : Inv X pins σ H1 { s1 with heap := h', toks := tk } := I1.kept fun b o e => hk b o (Heap.lt_size e) e
  exact call_len_set ho hex hd hf (by rw [hn]; omega) ⟨.int ((ddS (signsS z)).length : Nat), H1, I2.tok _, ⟨_, by rw [hn]⟩, q1⟩
end
end L2

set_option Elab.async false
set_option linter.all false
set_option maxRecDepth 100000
set_option maxHeartbeats 4000000
/-! StrKit: z * k and z[::-1] of texts. -/
namespace L2
open PySem PySem.Spec PyProof.Rows
/-- a text so many times -/
def repS (z : Str) (n : Nat) : Str := ⟨(List.replicate n z.cps.toList).flatten.toArray⟩
theorem foldl_app {α : Type} (xs : List (Array α)) (acc : Array α) : (xs.foldl (· ++ ·) acc).toList = acc.toList ++ (xs.map Array.toList).flatten := by
  induction xs generalizing acc with
  | nil => simp
  | cons x xs ih => rw [List.foldl_cons, ih, Array.toList_append, List.map_cons, List.flatten_cons, List.append_assoc]
theorem repS_list (z : Str) (n : Nat) : (repS z n).cps.toList = (List.replicate n z.cps.toList).flatten := rfl
theorem repS_len (z : Str) (n : Nat) : (repS z n).cps.toList.length = n * z.cps.toList.length := by
  rw [repS_list, List.length_flatten, List.map_replicate, List.sum_replicate_nat]
theorem mul_repS (z : Str) (k : Int) : Txt.mul z k = repS z k.toNat := by
  unfold Txt.mul repS
  by_cases h1 : k < 1
  · rw [if_pos h1, show k.toNat = 0 by omega]
    rfl
  · rw [if_neg h1]
    by_cases h2 : (k == 1 || z.length == 0) = true
    · rw [if_pos h2]
      rcases Bool.or_eq_true_iff.mp h2 with h | h
      · have : k = 1 := by simpa using h
        subst this
        obtain ⟨cs⟩ := z
        simp
      · have : z.length = 0 := by simpa using h
        have e : z.cps = #[] := Array.eq_empty_of_size_eq_zero this
        obtain ⟨cs⟩ := z
        simp only at e
        subst e
        simp
    · rw [if_neg h2]
      congr 1
      apply Array.ext'
      rw [foldl_app, List.map_replicate]
      simp
section
variable {X : Cx}
theorem op_mulS : OpR X (binaryOp .Mult) (fun x y H Q => ∃ z k, x = .str z ∧ y = .int k ∧ -(2 ^ 62) ≤ k ∧ k ≤ 2 ^ 24 ∧ z.cps.toList.length * k.toNat ≤ 2 ^ 24 ∧ Q (.str (repS z k.toNat)) H) := by
  intro pins s σ H x y v u Q I rx ry h
  obtain ⟨z, k, rfl, rfl, h1, h2, h3, q⟩ := h
  obtain ⟨t, rfl⟩ := rx
  obtain ⟨t', rfl⟩ := ry
  have hz : z.length = z.cps.toList.length := Array.length_toList.symm
  refine SB.mul ⟨?_, fun h4 h5 => ?_, fun h4 h5 => ?_⟩ fun t' tk => ⟨.str (repS z k.toNat), H, I.tok _, ⟨t', by rw [mul_repS]⟩, q⟩
  · have : ¬ k < -(2 ^ 63 : Int) := by omega
    have h : ¬ k ≥ (2 ^ 63 : Int) := by omega
    rw [decide_eq_false this, decide_eq_false h]
    rfl
  · have hk : 0 < k := by omega
    have : ((z.length : Nat) : Int) * k ≤ 2 ^ 24 := by
      rw [hz]
      have := Int.ofNat_le.mpr h3
      rw [Int.natCast_mul, Int.toNat_of_nonneg (by omega)] at this
      exact this
    have := Int.le_ediv_of_mul_le hk (Int.le_trans this (by decide : (2 : Int) ^ 24 ≤ 2 ^ 63 - 1))
    omega
  · unfold Builtin.Str.tooLong
    have : z.length * k.toNat ≤ 2 ^ 24 := by rw [hz]; exact h3
    simp only [sizeLine_eq]
    have h : ¬ z.length * k.toNat > 2 ^ 24 := by omega
    simp [h]
/-- z[::-1] -/
def revS (z : Str) : Str := ⟨z.cps.toList.reverse.toArray⟩
theorem revS_list (z : Str) : (revS z).cps.toList = z.cps.toList.reverse := rfl
def tRevS (te : TE) : TE := fun σ H Q => te σ H fun x H1 => ∃ z, x = .str z ∧ z.length ≤ sizeLine ∧ Q (.str (revS z)) H1
theorem pe_revS {e : Expr} {te : TE} {k : Nat} {p1 p2 p3 pos : Pos} (he : PE X e te) : PE X (.Subscript e (.Slice none none (some (.UnaryOp .USub (.Constant (.int 1) k p1) p2)) p3) pos) (tRevS te) := by
  refine ⟨fun pins s σ H Q I h => ?_⟩
  refine Subscript_ (thn (he.run pins s σ H _ I h) fun v s1 ⟨x, H1, I1, r1, q1⟩ => ?_)
  obtain ⟨z, ex, hz, q⟩ := q1
  subst ex
  obtain ⟨tz, rfl⟩ := r1
  have hst : PO X (some (.UnaryOp .USub (.Constant (.int 1) k p1) p2)) (tPart (tUn (rU fun i => .int (-i)) (tC (.int 1)))) := po_some (pe_un un_neg pe_int)
  refine wpAny_Slice (thn (po_none.run pins s1 σ H1 (fun o H2 => o = none ∧ H2 = H1) I1 ⟨rfl, rfl⟩) fun vl s2 ⟨l, H2, I2, pl, el, e2⟩ => ?_)
  subst el e2
  refine thn (po_none.run pins s2 σ H2 (fun o H3 => o = none ∧ H3 = H2) I2 ⟨rfl, rfl⟩) fun vu s3 ⟨u, H3, I3, pu, eu, e3⟩ => ?_
  subst eu e3
  refine thn (hst.run pins s3 σ H3 (fun o H4 => o = some (-1) ∧ H4 = H3) I3 ⟨1, rfl, -1, rfl, rfl, rfl⟩) fun vs s4 ⟨o, H4, I4, ps, eo, e4⟩ => ?_
  subst eo e4
  have I5 : Inv X pins σ H4 { s4 with heap := s4.heap.push { cls := .type "slice", data := .fields #[vl, vu, vs] } } := I4.kept (t' := s4.toks) fun b ob q => Heap.get?_push_of_some _ q
  show wpAny (model X.prog X.w) X.A (subscriptTail e (.Slice none none (some (.UnaryOp .USub (.Constant (.int 1) k p1) p2)) p3) (.str z tz) (.ref s4.heap.objs.size)) (EP X pins σ Q) X.xe { s4 with heap := s4.heap.push { cls := .type "slice", data := .fields #[vl, vu, vs] } }
  obtain ⟨l, rfl, e1⟩ := IsPart.raw pl
  obtain ⟨u, rfl, e2⟩ := IsPart.raw pu
  obtain ⟨st, rfl, e3⟩ := IsPart.raw ps
  have el : l = none := by cases l <;> simp_all
  have eu : u = none := by cases u <;> simp_all
  subst el eu
  refine tail_any (ops := [.str z tz, .ref s4.heap.objs.size]) (typeIs_str _ _ _) (F.slot_str_getitem.lookup) ?_ (by with_unfolding_all rfl)
  refine wpAny_getItem_str_slice (l := none) (u := none) (st := st) ⟨_, Heap.get?_push_size _ rfl, rfl, rfl⟩ (by rw [e3]; rfl) ?_
  have hp : ((Builtin.Str.strSliceIndices none none (-1) z.length).filterMap (z.cps[·]?)) = z.cps.toList.reverse := by
    unfold Builtin.Str.strSliceIndices
    show ((PySem.sliceRange ((z.length : Int) - 1) (-1) (-1)).filterMap (z.cps[·]?)) = _
    rw [PySem.W.krv_sliceRange, PySem.W.krv_range, List.filterMap_reverse]
    exact congrArg List.reverse (PySem.W.krv_all z.cps)
  have hl : (revS z).length ≤ sizeLine := by
    have : (revS z).length = z.length := by
      show (z.cps.toList.reverse.toArray).size = z.cps.size
      rw [List.size_toArray, List.length_reverse, Array.length_toList]
    omega
  unfold sliceMade slicePicked
  rw [e3]
  show Made.post (if ((-1 : Int) == 1 && _) = true then _ else Made.str ⟨((Builtin.Str.strSliceIndices none none (-1) z.length).filterMap (z.cps[·]?)).toArray⟩) _ _
  rw [hp, if_neg (by simp)]
  exact ⟨hl, .str (revS z), H4, I5.tok _, ⟨_, rfl⟩, q⟩
end
end L2

set_option Elab.async false
set_option linter.all false
set_option maxRecDepth 100000
set_option maxHeartbeats 4000000
/-! StrL: texts by the lists of their codes. -/
namespace L2
open PySem PySem.Spec PyProof.Rows
def strL (l : List Nat) : Str := ⟨l.toArray⟩
def strV (l : List Nat) : V := .str (strL l)
theorem strL_list (l : List Nat) : (strL l).cps.toList = l := by simp [strL]
theorem strL_size (l : List Nat) : (strL l).cps.size = l.length := by simp [strL]
theorem strL_len (l : List Nat) : (strL l).length = l.length := by show l.toArray.size = _; simp
theorem strL_of (z : Str) : z = strL z.cps.toList := by
  cases z
  simp [strL]
theorem strL_add (a b : List Nat) : strL a ++ strL b = strL (a ++ b) := by
  show (⟨a.toArray ++ b.toArray⟩ : Str) = ⟨(a ++ b).toArray⟩
  simp
theorem strL_inj {a b : List Nat} : strL a = strL b ↔ a = b := by
  constructor
  · intro h
    have := congrArg (fun z : Str => z.cps.toList) h
    simpa [strL] using this
  · rintro rfl
    rfl
theorem strV_inj {a b : List Nat} : V.str (strL a) = V.str (strL b) ↔ a = b := by
  constructor
  · intro h
    injection h with h
    exact strL_inj.mp h
  · rintro rfl
    rfl
theorem strL_dec (a b : List Nat) : decide (V.str (strL a) = V.str (strL b)) = decide (a = b) := by
  by_cases h : a = b
  · rw [decide_eq_true h, decide_eq_true (strV_inj.mpr h)]
  · rw [decide_eq_false h, decide_eq_false fun z => h (strV_inj.mp z)]
theorem cutN (l : List Nat) (a b : Nat) : cutS (strL l) (some (a : Int)) (some (b : Int)) = strL ((l.take b).drop a) := by
  rw [strL_of (cutS _ _ _)]
  congr 1
  show (((strL l).cps.toList.drop (HT.sIx (strL l).length 0 (some (a : Int)))).take (HT.sIx (strL l).length (strL l).length (some (b : Int)) - HT.sIx (strL l).length 0 (some (a : Int)))).toArray.toList = _
  rw [HT.sIx_nat, HT.sIx_nat, strL_list, strL_len]
  simp only [List.toList_toArray]
  rw [List.drop_take]
  by_cases h1 : a ≤ l.length
  · rw [Nat.min_eq_left h1]
    by_cases h2 : b ≤ l.length
    · rw [Nat.min_eq_left h2]
    · rw [Nat.min_eq_right (by omega), List.take_of_length_le (by rw [List.length_drop]; omega), List.take_of_length_le (by rw [List.length_drop]; omega)]
  · rw [List.drop_of_length_le (by omega : l.length ≤ min a l.length), List.drop_of_length_le (by omega : l.length ≤ a)]
    simp
theorem cutL (l : List Nat) (k : Nat) : cutS (strL l) (some (k : Int)) none = strL (l.drop k) := by
  rw [strL_of (cutS _ _ _)]
  congr 1
  show (((strL l).cps.toList.drop (HT.sIx (strL l).length 0 (some (k : Int)))).take (HT.sIx (strL l).length (strL l).length none - HT.sIx (strL l).length 0 (some (k : Int)))).toArray.toList = _
  rw [HT.sIx_none, HT.sIx_nat, strL_list, strL_len]
  simp only [List.toList_toArray]
  rw [List.take_of_length_le (by rw [List.length_drop]; omega), Nat.min_def]
  split
  · rfl
  · rw [List.drop_of_length_le (Nat.le_refl _), List.drop_of_length_le (by omega)]
theorem takeL (l : List Nat) (k : Nat) : cutS (strL l) none (some (k : Int)) = strL (l.take k) := by
  rw [strL_of (cutS _ _ _)]
  congr 1
  show (((strL l).cps.toList.drop (HT.sIx (strL l).length 0 none)).take (HT.sIx (strL l).length (strL l).length (some (k : Int)) - HT.sIx (strL l).length 0 none)).toArray.toList = _
  rw [HT.sIx_none, HT.sIx_nat, strL_list, strL_len]
  simp only [List.toList_toArray, List.drop_zero, Nat.sub_zero]
  rw [Nat.min_def]
  split
  · rfl
  · rw [List.take_of_length_le (Nat.le_refl _), List.take_of_length_le (by omega)]
theorem repL (l : List Nat) (k : Nat) : repS (strL l) k = strL (List.replicate k l).flatten := by
  show (⟨(List.replicate k (strL l).cps.toList).flatten.toArray⟩ : Str) = _
  rw [strL_list]
  rfl
theorem joinL_nil0 : ∀ ys : List (List Nat), TL.joinL [] ys = ys.flatten
  | [] => rfl
  | [p] => by rw [List.flatten_cons, List.flatten_nil, List.append_nil]; rfl
  | p :: q :: r => (show p ++ TL.joinL [] (q :: r) = _ from by rw [joinL_nil0 (q :: r)]; rfl)
theorem joinV (ws : List (List Nat)) : Txt.join "" (ws.map strL) = strL ws.flatten := by
  have e : ws.map strL = ws.map SX.S := List.map_congr_left fun w _ => by
    have := SX.S_tl (strL w)
    rw [strL_list] at this
    exact this.symm
  rw [e, show ("" : Str) = SX.S [] from rfl, SX.join_S, joinL_nil0, strL_of (SX.S _)]
theorem sum_lenV (ws : List (List Nat)) : ((ws.map strL).map (·.length)).sum = ws.flatten.length := by
  rw [List.length_flatten, List.map_map]
  exact congrArg List.sum (List.map_congr_left fun w _ => strL_len w)
theorem ones_flat : ∀ l : List Nat, (l.map fun c => [c]).flatten = l
  | [] => rfl
  | c :: l => by rw [List.map_cons, List.flatten_cons, ones_flat l]; rfl
theorem mapV (ws : List (List Nat)) : (ws.map strL).map V.str = ws.map strV := by
  rw [List.map_map]
  rfl
theorem cut_tail1 (xs : List V) : cutV xs (some 1) none = xs.drop 1 := by
  unfold cutV
  rw [HT.sIx_none, show (some (1 : Int)) = some ((1 : Nat) : Int) from rfl, HT.sIx_nat]
  by_cases h : xs.length ≤ 1
  · rw [Nat.min_eq_right h, List.drop_length, List.drop_of_length_le h, List.take_nil]
  · rw [Nat.min_eq_left (by omega), List.take_of_length_le (by rw [List.length_drop]; omega)]
end L2

set_option Elab.async false
set_option linter.all false
set_option maxRecDepth 100000
set_option maxHeartbeats 4000000
/-! SufKey: the suffixes of a text with the sign ahead of each, sorted. -/
namespace Bwt
open PySem PySem.Spec PyProof.Rows L2
def codes (l : List Nat) : List Int := l.map (fun c : Nat => (c : Int)) ++ [-1]
def sufZ (t : List Nat) (p : Nat) : List Int × Nat := (codes (t.drop p), sg0 t p)
def kX (z : List Int × Nat) : PyData := .tuple [.list (z.1.map PyData.int), .str (strL [z.2])]
theorem toks_kX (z : List Int × Nat) : PySem.W.keyToks (kX z) = .inl 1 :: (PySem.W.keyToksAll (z.1.map PyData.int) ++ [.inl 1, .inr [z.2], .inl 0]) := by
  simp [kX, PySem.W.keyToks, PySem.W.keyToksAll, strL]
theorem ints_app : ∀ {ns ms : List Int} {r q : List (Int ⊕ List Nat)}, PySem.W.keyToksAll (ns.map PyData.int) ++ r = PySem.W.keyToksAll (ms.map PyData.int) ++ q → ns = ms ∧ r = q
  | [], [], r, q, h => by
    simp only [List.map_nil, PySem.W.keyToksAll, List.cons_append, List.nil_append] at h
    injection h with _ h
    exact ⟨rfl, h⟩
  | [], m :: ms, r, q, h => by
    simp only [List.map_nil, List.map_cons, PySem.W.keyToksAll, List.cons_append, List.nil_append] at h
    injection h with h _
    injection h with h
    omega
  | n :: ns, [], r, q, h => by
    simp only [List.map_nil, List.map_cons, PySem.W.keyToksAll, List.cons_append, List.nil_append] at h
    injection h with h _
    injection h with h
    omega
  | n :: ns, m :: ms, r, q, h => by
    simp only [List.map_cons, PySem.W.keyToksAll, PySem.W.keyToks, List.cons_append, List.nil_append] at h
    injection h with _ h
    injection h with h1 h2
    injection h1 with h1
    obtain ⟨e1, e2⟩ := ints_app h2
    exact ⟨by rw [h1, e1], e2⟩
theorem kX_inj (a b : List Int × Nat) (h : PySem.W.keyToks (kX a) = PySem.W.keyToks (kX b)) : a = b := by
  rw [toks_kX, toks_kX] at h
  injection h with _ h
  obtain ⟨h1, h2⟩ := ints_app h
  injection h2 with _ h2
  injection h2 with h2 _
  injection h2 with h2
  injection h2 with h2 _
  exact Prod.ext h1 h2
theorem toks_cons (c : Nat) (v : List Nat) (r : List (Int ⊕ List Nat)) : PySem.W.keyToksAll ((codes (c :: v)).map PyData.int) ++ r = .inl 1 :: .inl (c : Int) :: (PySem.W.keyToksAll ((codes v).map PyData.int) ++ r) := by
  simp only [codes, List.map_cons, List.cons_append, PySem.W.keyToksAll, PySem.W.keyToks, List.nil_append]
theorem toks_end (r : List (Int ⊕ List Nat)) : PySem.W.keyToksAll ((codes []).map PyData.int) ++ r = .inl 1 :: .inl (-1) :: .inl 0 :: r := by
  simp only [codes, List.map_cons, List.map_nil, List.cons_append, PySem.W.keyToksAll, PySem.W.keyToks, List.nil_append]
theorem lex_codes : ∀ (u v : List Nat), u < v → ∀ r q : List (Int ⊕ List Nat), PyProof.Rows.lexLt itemOrd (PySem.W.keyToksAll ((codes v).map PyData.int) ++ r) (PySem.W.keyToksAll ((codes u).map PyData.int) ++ q) = false
  | [], [], h, _, _ => absurd h (List.not_lt_nil _)
  | a :: u, [], h, _, _ => absurd h (List.not_lt_nil _)
  | [], c :: v, h, r, q => by
    rw [toks_cons, toks_end, lex_self, lex_false, L2.blt_l, L2.blt_l, decide_eq_false_iff_not, decide_eq_true_eq]
    exact ⟨by omega, .inl (by omega)⟩
  | a :: u, c :: v, h, r, q => by
    rw [toks_cons, toks_cons, lex_self, lex_false, L2.blt_l, L2.blt_l, decide_eq_false_iff_not, decide_eq_true_eq]
    rcases List.cons_lt_cons_iff.mp h with h | ⟨h, h2⟩
    · exact ⟨by omega, .inl (by omega)⟩
    · exact ⟨by omega, .inr (lex_codes u v h2 r q)⟩
theorem dle_sufZ {t : List Nat} {a b : Nat} (h : t.drop a < t.drop b) : dle kX (sufZ t a) (sufZ t b) = true := by
  rw [L2.dle_not, Bool.not_eq_true', toks_kX, toks_kX, lex_self]
  exact lex_codes _ _ h _ _
theorem sort_suf {t l : List Nat} (h : SufOrd t l) : isort (dle kX) ((List.range (t.length + 1)).map (sufZ t)) = l.map (sufZ t) := by
  refine sorted_uniq (dle kX) (fun x _ y _ a b => kX_inj _ _ (dle_anti a b)) ?_ (isort_sorted (dle kX) (dle_trans kX) (dle_total kX) _) ?_
  · exact (isort_perm (dle kX) _).trans (h.perm.map (sufZ t)).symm
  · rw [List.pairwise_map]
    refine List.pairwise_iff_getElem.mpr fun i j hi hj hij => dle_sufZ ?_
    exact drop_lt h hij (List.getElem?_eq_getElem hi) (List.getElem?_eq_getElem hj)
end Bwt

set_option Elab.async false
set_option linter.all false
set_option maxRecDepth 100000
set_option maxHeartbeats 4000000
/-! BwtRead: a row of a list of texts tells the texts; the suffixes sorted as data. -/
namespace BwL
open PySem PySem.Spec PyProof.Rows L2
variable {ts : List (List Nat)} {l : List Pt}
def items (ts : List (List Nat)) : List Pt := (List.range ts.length).flatMap fun j => (List.range ((tx ts j).length + 1)).map fun p => ((j, p) : Pt)
theorem items_mem {x : Pt} : x ∈ items ts ↔ Ok ts x := by
  unfold items Ok
  rw [List.mem_flatMap]
  constructor
  · rintro ⟨j, hj, h⟩
    obtain ⟨p, hp, rfl⟩ := List.mem_map.mp h
    have := List.mem_range.mp hj
    have := List.mem_range.mp hp
    exact ⟨by assumption, by show p ≤ (tx ts j).length; omega⟩
  · rintro ⟨h1, h2⟩
    exact ⟨x.1, List.mem_range.mpr h1, List.mem_map.mpr ⟨x.2, List.mem_range.mpr (by omega), rfl⟩⟩
theorem items_nodup : (items ts).Nodup := by
  unfold items
  refine List.pairwise_flatMap.mpr ⟨fun j _ => ?_, ?_⟩
  · exact List.pairwise_map.mpr (List.nodup_range.imp fun {a b} ne e => ne (congrArg Prod.snd e))
  · refine List.nodup_range.imp fun {a b} ne => ?_
    intro x hx y hy e
    obtain ⟨p, _, rfl⟩ := List.mem_map.mp hx
    obtain ⟨q, _, rfl⟩ := List.mem_map.mp hy
    exact ne (congrArg Prod.fst e)
theorem items_perm (h : LOrd ts l) : (items ts).Perm l := (List.perm_ext_iff_of_nodup items_nodup (nodup h)).mpr fun x => by rw [items_mem, h.mem]
theorem lt_total {x y : Pt} (hx : Ok ts x) (hy : Ok ts y) : lt ts x y ∨ x = y ∨ lt ts y x := by
  rcases Lyn.trich (sf ts x) (sf ts y) with z | z | z
  · exact .inl (.inl z)
  · rcases Nat.lt_trichotomy x.1 y.1 with w | w | w
    · exact .inl (.inr ⟨z, w⟩)
    · refine .inr (.inl ?_)
      have h1 := congrArg List.length z
      unfold sf at h1
      rw [List.length_drop, List.length_drop, w] at h1
      have h2 := hx.2
      have h3 := hy.2
      rw [w] at h2
      exact Prod.ext w (by omega)
    · exact .inr (.inr (.inr ⟨z.symm, w⟩))
  · exact .inr (.inr (.inl z))
instance (x y : Pt) : Decidable (lt ts x y) := by unfold lt; infer_instance
/-- there is an order -/
theorem ex_lord (ts : List (List Nat)) : ∃ l, LOrd ts l := by
  have tr : ∀ (x y z : {x : Pt // Ok ts x}), (!decide (lt ts y.1 x.1)) = true → (!decide (lt ts z.1 y.1)) = true → (!decide (lt ts z.1 x.1)) = true := fun x y z h g => by
    rw [Bool.not_eq_true', decide_eq_false_iff_not] at *
    intro w
    rcases lt_total x.2 y.2 with q | q | q
    · exact g (lt_tr w q)
    · rw [q] at w
      exact g w
    · exact h q
  have to : ∀ (x y : {x : Pt // Ok ts x}), ((!decide (lt ts y.1 x.1)) || (!decide (lt ts x.1 y.1))) = true := fun x y => by
    rw [Bool.or_eq_true, Bool.not_eq_true', Bool.not_eq_true', decide_eq_false_iff_not, decide_eq_false_iff_not]
    by_cases q : lt ts y.1 x.1
    · exact .inr fun w => lt_irr _ (lt_tr q w)
    · exact .inl q
  obtain ⟨m, hm⟩ : ∃ m : List {x : Pt // Ok ts x}, m.map (·.1) = items ts := ⟨(items ts).attach.map fun x => ⟨x.1, items_mem.mp x.2⟩, by rw [List.map_map]; exact List.attach_map_subtype_val _⟩
  refine ⟨(isort (fun x y : {x : Pt // Ok ts x} => !decide (lt ts y.1 x.1)) m).map (·.1), fun x => ?_, ?_⟩
  · have := ((isort_perm (fun x y : {x : Pt // Ok ts x} => !decide (lt ts y.1 x.1)) m).map (·.1)).mem_iff (a := x)
    rw [this, hm, items_mem]
  · rw [List.pairwise_map]
    have s1 := isort_sorted (fun x y : {x : Pt // Ok ts x} => !decide (lt ts y.1 x.1)) tr to m
    have nd : (isort (fun x y : {x : Pt // Ok ts x} => !decide (lt ts y.1 x.1)) m).Nodup := by
      rw [(isort_perm _ m).nodup_iff]
      have : (m.map (·.1)).Nodup := by rw [hm]; exact items_nodup
      exact (List.pairwise_map.mp this).imp fun {a b} ne e => ne (congrArg _ e)
    refine (s1.and nd).imp fun {a b} q => ?_
    obtain ⟨q1, q2⟩ := q
    rw [Bool.not_eq_true', decide_eq_false_iff_not] at q1
    rcases lt_total a.2 b.2 with w | w | w
    · exact w
    · exact absurd (Subtype.ext w) q2
    · exact absurd w q1
/-- the text behind a place of a row -/
def rd (cs : List Nat) : Nat → Nat → List Nat
  | 0, _ => []
  | f + 1, i => if cs.getD i 0 = 36 then [] else rd cs f ((ordI cs).idxOf i) ++ [cs.getD i 0]
variable (big : ∀ t ∈ ts, ∀ c ∈ t, 36 < c)
include big
theorem idx_step (h : LOrd ts l) {j s : Nat} (hj : j < ts.length) (hs : s < (tx ts j).length) : (ordI (rowL ts l)).idxOf (rk l (j, s + 1)) = rk l (j, s) := by
  rw [ord_row big h]
  have nd := pair_nodup (lr_irr _) (ord0_inc big h)
  obtain ⟨g1, g2⟩ := rest_at h (x := (j, s)) hj hs
  have e : (ord0 ts l)[rk l (j, s)]? = some (rk l (j, s + 1)) := by
    unfold ord0
    rw [List.getElem?_append_right (by rw [List.length_map, heads_len h]; exact g1), List.length_map, heads_len h, List.getElem?_map, g2]
    rfl
  obtain ⟨a1, a2⟩ := List.getElem?_eq_some_iff.mp e
  have hl : (ord0 ts l).idxOf (rk l (j, s + 1)) < (ord0 ts l).length := List.idxOf_lt_length_iff.mpr (List.mem_of_getElem? e)
  exact (List.getElem_inj (h₀ := hl) (h₁ := a1) nd).mp ((List.getElem_idxOf hl).trans a2.symm)
theorem rd_row (h : LOrd ts l) {j : Nat} (hj : j < ts.length) : ∀ (p f : Nat), p ≤ (tx ts j).length → p < f → rd (rowL ts l) f (rk l (j, p)) = (tx ts j).take p
  | 0, f + 1, hp, _ => by
    unfold rd
    rw [row_rk h (x := (j, 0)) ⟨hj, hp⟩, sg_zero, if_pos rfl]
    rfl
  | p + 1, f + 1, hp, hf => by
    have ih := rd_row h hj p f (by omega) (by omega)
    have hb := big_at big (j := j) (s := p) (by omega)
    unfold rd
    rw [row_rk h (x := (j, p + 1)) ⟨hj, hp⟩, sg_succ, if_neg (by omega), idx_step big h hj (by omega), ih, List.take_succ, List.getD_eq_getElem?_getD, List.getElem?_eq_getElem (by omega)]
    rfl
theorem rd_text (h : LOrd ts l) {j : Nat} (hj : j < ts.length) {f : Nat} (hf : (tx ts j).length < f) : rd (rowL ts l) f j = tx ts j := by
  have := rd_row big h hj _ f (Nat.le_refl _) hf
  rw [rk_end h hj, List.take_length] at this
  exact this
/-- the row tells the texts -/
theorem row_tells {us : List (List Nat)} {m : List Pt} (big2 : ∀ t ∈ us, ∀ c ∈ t, 36 < c) (h : LOrd ts l) (g : LOrd us m) (e : rowL ts l = rowL us m) (hn : ts.length = us.length) : ts = us := by
  refine List.ext_getElem? fun j => ?_
  by_cases hj : j < ts.length
  · have h1 := rd_text big h hj (f := (tx ts j).length + (tx us j).length + 1) (by omega)
    have h2 := rd_text big2 g (j := j) (by omega) (f := (tx ts j).length + (tx us j).length + 1) (by omega)
    rw [e, h2] at h1
    unfold tx at h1
    rw [List.getD_eq_getElem?_getD, List.getD_eq_getElem?_getD, List.getElem?_eq_getElem hj, List.getElem?_eq_getElem (show j < us.length by omega)] at h1
    rw [List.getElem?_eq_getElem hj, List.getElem?_eq_getElem (show j < us.length by omega)]
    exact congrArg some h1.symm
  · rw [List.getElem?_eq_none (by omega), List.getElem?_eq_none (by omega)]
omit big
/-- the suffixes as data -/
def codesN (l : List Nat) (e : Int) : List Int := l.map (fun c : Nat => (c : Int)) ++ [e]
def sufZ (ts : List (List Nat)) (x : Pt) : List Int × Nat := (codesN (sf ts x) ((x.1 : Int) - (ts.length : Int)), sg ts x)
theorem toks_cons (c : Nat) (v : List Nat) (e : Int) (r : List (Int ⊕ List Nat)) : PySem.W.keyToksAll ((codesN (c :: v) e).map PyData.int) ++ r = .inl 1 :: .inl (c : Int) :: (PySem.W.keyToksAll ((codesN v e).map PyData.int) ++ r) := by
  simp only [codesN, List.map_cons, List.cons_append, PySem.W.keyToksAll, PySem.W.keyToks, List.nil_append]
theorem toks_end (e : Int) (r : List (Int ⊕ List Nat)) : PySem.W.keyToksAll ((codesN [] e).map PyData.int) ++ r = .inl 1 :: .inl e :: .inl 0 :: r := by
  simp only [codesN, List.map_cons, List.map_nil, List.cons_append, PySem.W.keyToksAll, PySem.W.keyToks, List.nil_append]
theorem lex_codes : ∀ (u v : List Nat) (e f : Int), e < 0 → f < 0 → (u < v ∨ (u = v ∧ e < f)) → ∀ r q : List (Int ⊕ List Nat), PyProof.Rows.lexLt itemOrd (PySem.W.keyToksAll ((codesN v f).map PyData.int) ++ r) (PySem.W.keyToksAll ((codesN u e).map PyData.int) ++ q) = false
  | [], [], e, f, he, hf, h, r, q => by
    have h : e < f := by
      rcases h with h | h
      · exact absurd h (List.not_lt_nil _)
      · exact h.2
    rw [toks_end, toks_end, lex_self, lex_false, L2.blt_l, L2.blt_l, decide_eq_false_iff_not, decide_eq_true_eq]
    exact ⟨by omega, .inl h⟩
  | a :: u, [], e, f, he, hf, h, r, q => by
    rcases h with h | h
    · exact absurd h (List.not_lt_nil _)
    · cases h.1
  | [], c :: v, e, f, he, hf, h, r, q => by
    rw [toks_cons, toks_end, lex_self, lex_false, L2.blt_l, L2.blt_l, decide_eq_false_iff_not, decide_eq_true_eq]
    exact ⟨by omega, .inl (by omega)⟩
  | a :: u, c :: v, e, f, he, hf, h, r, q => by
    rw [toks_cons, toks_cons, lex_self, lex_false, L2.blt_l, L2.blt_l, decide_eq_false_iff_not, decide_eq_true_eq]
    rcases h with h | ⟨h, h2⟩
    · rcases List.cons_lt_cons_iff.mp h with h | ⟨h, h2⟩
      · exact ⟨by omega, .inl (by omega)⟩
      · exact ⟨by omega, .inr (lex_codes u v e f he hf (.inl h2) r q)⟩
    · injection h with c1 c2
      exact ⟨by omega, .inr (lex_codes u v e f he hf (.inr ⟨c2, h2⟩) r q)⟩
theorem dle_sufZ {x y : Pt} (hx : Ok ts x) (hy : Ok ts y) (h : lt ts x y) : dle Bwt.kX (sufZ ts x) (sufZ ts y) = true := by
  rw [L2.dle_not, Bool.not_eq_true', Bwt.toks_kX, Bwt.toks_kX, lex_self]
  refine lex_codes _ _ _ _ (by have := hx.1; omega) (by have := hy.1; omega) ?_ _ _
  rcases h with h | ⟨h1, h2⟩
  · exact .inl h
  · exact .inr ⟨h1, by omega⟩
theorem sort_suf (h : LOrd ts l) : isort (dle Bwt.kX) ((items ts).map (sufZ ts)) = l.map (sufZ ts) := by
  refine sorted_uniq (dle Bwt.kX) (fun x _ y _ a b => Bwt.kX_inj _ _ (dle_anti a b)) ?_ (isort_sorted (dle Bwt.kX) (dle_trans Bwt.kX) (dle_total Bwt.kX) _) ?_
  · exact (isort_perm (dle Bwt.kX) _).trans ((items_perm h).map (sufZ ts))
  · rw [List.pairwise_map]
    exact List.Pairwise.imp_of_mem (fun {a b} ha hb q => dle_sufZ ((h.mem a).mp ha) ((h.mem b).mp hb) q) h.inc
end BwL

set_option Elab.async false
set_option linter.all false
set_option maxRecDepth 100000
set_option maxHeartbeats 4000000
/-! LstKit: list.count of texts, list[::-1]. -/
namespace L2
open PySem PySem.Spec PyProof.Rows
section
variable {X : Cx} {pins : List (Addr × Obj)} {σ : L2.St} {H : Hp} {s : Shared}
theorem strs_vals : ∀ {ys : List Str} {us : List Value}, Vals (ys.map V.str) us → StrsAre us ys
  | [], _, h => by
    cases h
    exact .nil
  | y :: ys, _, h => by
    cases h with
    | cons rv rn =>
      obtain ⟨t, rfl⟩ := rv
      exact .cons y t (strs_vals rn)
theorem countIn_strs (k : Str) : ∀ ys : List Str, countIn (.str k) (ys.map PyData.str) = ((ys.count k : Nat) : Int)
  | [] => rfl
  | y :: ys => by
    rw [List.map_cons, countIn, countIn_strs k ys, List.count_cons]
    by_cases h : y = k
    · simp [same, h]; omega
    · simp [same, h]
def rCntS (K : PySem.W.Frag) : V → List V → Hp → VK → Prop := fun x xs H Q => ∃ (p : Addr) (ys : List Str) (k : Str), x = .ref p ∧ xs = [.str k] ∧ SqL K H p (ys.map V.str) ∧ Q (.int (ys.count k : Nat)) H
theorem mt_countS : MtR X "list.count" (rCntS X.K) := by
  intro pins s σ H x xs v us Q I rx rxs h
  obtain ⟨p, ys, k, rfl, rfl, hs, q⟩ := h
  cases rx
  obtain ⟨u, rfl, ru⟩ := rxs.one
  obtain ⟨t, rfl⟩ := ru
  obtain ⟨its, rv, ht, hlen⟩ := I.list hs
  refine count_list_strs ht.isList (strs_vals rv) ?_
  rw [countIn_strs]
  exact ⟨.int (ys.count k : Nat), H, I.tok _, ⟨s.toks, rfl⟩, q⟩
end
end L2

set_option Elab.async false
set_option linter.all false
set_option maxRecDepth 100000
set_option maxHeartbeats 4000000
/-! DefKit: max(list of ints, default=d); < of data. -/
namespace L2
open PySem PySem.Spec PyProof.Rows
section
variable {X : Cx}
def rLtD (K : PySem.W.Frag) : V → V → Hp → VK → Prop := fun x y H Q => ∃ d e, Dp K H x d ∧ Dp K H y e ∧ PySem.W.alike d e = true ∧ d ≠ .none ∧ d.depth ≤ 50 ∧ Q (.bl (PySem.W.dataLt d e)) H
theorem op_ltD (hu : X.A.units + 64 < cLine) : OpR X (compareOp .Lt) (rLtD X.K) := by
  intro pins s σ H x y u v Q I rx ry h
  obtain ⟨d, e, hd, he, al, nn, dep, q⟩ := h
  obtain ⟨as, ra⟩ := Dp.reads I d x u hd rx
  obtain ⟨bs, rb⟩ := Dp.reads I e y v he ry
  refine PySem.W.lt_data ra rb al nn (by omega) ?_
  exact ⟨.bl _, H, I, rfl, q⟩
theorem op_ltDK {K : PySem.W.Frag} (hu : X.A.units + 64 < cLine) (h : X.K = K := by rfl) : OpR X (compareOp .Lt) (rLtD K) := by
  subst h
  exact op_ltD hu
/-- the greatest of some numbers, or d -/
def maxZ (d : Int) : List Int → Int
  | [] => d
  | x :: xs => xs.foldl (fun a y => if a < y then y else a) x
theorem maxD_ints (x : Int) : ∀ xs : List Int, PySem.W.maxD (.int x) (xs.map PyData.int) = .int (xs.foldl (fun a y => if a < y then y else a) x) := by
  intro xs
  induction xs generalizing x with
  | nil => rfl
  | cons y ys ih =>
    show PySem.W.maxD (if PySem.W.dataLt (.int x) (.int y) = true then .int y else .int x) (ys.map PyData.int) = _
    rw [PySem.W.dataLt_int]
    show _ = PyData.int (ys.foldl _ (if x < y then y else x))
    by_cases h : x < y
    · rw [if_pos (decide_eq_true h), if_pos h, ih]
    · rw [if_neg (by simpa using h), if_neg h, ih]
theorem reads_ints {h : Heap} : ∀ {xs : List Int} {us : List Value}, Vals (xs.map V.int) us → ∃ as, ReadsAll h us (xs.map PyData.int) as
  | [], _, r => by
    cases r
    exact ⟨_, .nil⟩
  | x :: xs, _, r => by
    cases r with
    | cons r1 r2 =>
      obtain ⟨t, rfl⟩ := r1
      obtain ⟨as, hr⟩ := reads_ints (h := h) r2
      exact ⟨_, .cons (.int x t) hr⟩
theorem depth_ints : ∀ xs : List Int, PyData.depthAll (xs.map PyData.int) = 0
  | [] => by simp [PyData.depthAll]
  | x :: xs => by simp [PyData.depthAll, PyData.depth, depth_ints xs]
def rMaxDef (K : PySem.W.Frag) : List V → List V → Hp → VK → Prop := fun vs zs H Q => ∃ (a : Addr) (ns : List Int) (d : Int), vs = [.ref a] ∧ zs = [.int d] ∧ SqL K H a (ns.map V.int) ∧ Q (.int (maxZ d ns)) H
theorem cr_maxDef (hc : X.calm = true) (hu : X.A.units + 64 < cLine) : CallRK X (.builtin "max") [Str.ofString "default"] (rMaxDef X.K) := by
  intro pins s σ H vs zs us ws Q I r rz h
  obtain ⟨a, ns, d, rfl, rfl, hs, q⟩ := h
  obtain rfl := Vals.ref1 r
  obtain ⟨w1, rfl, e1⟩ := vals1 rz
  obtain ⟨td, rfl⟩ : ∃ t, w1 = Value.int d t := e1
  obtain ⟨its, rv, hl, hz⟩ := I.list hs
  obtain ⟨as, hr⟩ := reads_ints (h := s.heap) rv
  refine PySem.W.max_list_default (xs := ns.map PyData.int) (I.ok.hd hc) hl.isList (by simpa using hr) ⟨fun y hy z hz => ?_, fun y hy => ?_⟩ (by rw [depth_ints]; omega) (fun h0 h' tk hk => ?_) fun y ys i v h' tk bs e hv hrd hk => ?_
  · obtain ⟨y', _, rfl⟩ := List.mem_map.mp hy
    obtain ⟨z', _, rfl⟩ := List.mem_map.mp hz
    simp [PySem.W.alike]
  · obtain ⟨y', _, rfl⟩ := List.mem_map.mp hy
    exact fun z => nomatch z
  · have : ns = [] := by simpa using h0
    subst this
    exact ⟨.int d, H, I.kept (t' := tk) hk, ⟨td, rfl⟩, q⟩
  · match ns, e, q with
    | [], e, _ => simp at e
    | x :: xs, e, q =>
      rw [List.map_cons] at e
      injection e with e1 e2
      subst e1 e2
      rw [maxD_ints] at hrd
      cases hrd with
      | int _ t => exact ⟨.int (maxZ d (x :: xs)), H, I.kept (t' := tk) hk, ⟨t, rfl⟩, q⟩
end
end L2

set_option Elab.async false
set_option linter.all false
set_option maxRecDepth 100000
set_option maxHeartbeats 4000000
/-! NumKit: math.factorial; x *= y, x //= y of great numbers. -/
namespace L2
open PySem PySem.Spec PyProof.Rows
theorem iteY {b : Bool} {P R : Prop} (h : b = true) (p : P) : if b = true then P else R := by rw [if_pos h]; exact p
theorem iteN {b : Bool} {P R : Prop} (h : b = false) (r : R) : if b = true then P else R := by rw [if_neg (by rw [h]; decide)]; exact r
section
variable {X : Cx}
def facI (n : Int) : Int := ((Builtin.Math.factorialNat n.toNat : Nat) : Int)
def rFact : List V → Hp → VK → Prop := fun vs H Q => ∃ a : Int, vs = [.int a] ∧ 0 ≤ a ∧ a ≤ 20000 ∧ Q (.int (facI a)) H
theorem call_fact : CallR X (.builtin "math.factorial") rFact := by
  intro pins s σ H vs us Q I r h
  obtain ⟨a, rfl, h0, h1, q⟩ := h
  obtain ⟨u, rfl, ru⟩ := vals1 r
  obtain ⟨t, rfl⟩ := ru
  exact PySem.W.mc_factorial h0 h1 fun _ => ⟨.int _, H, I.tok _, ⟨_, rfl⟩, q⟩
def ipMulW : TIp := fun x y H Q => ∃ i j, x = .int i ∧ y = .int j ∧ CMulW i j ∧ Q (.int (i * j)) H
theorem ip_mulW : PIp X .Mult ipMulW := by
  intro pins s σ H x y v u Q I r1 r2 h
  obtain ⟨i, j, rfl, rfl, hc, q⟩ := h
  obtain ⟨t, rfl⟩ := r1
  obtain ⟨t', rfl⟩ := r2
  exact AutoIntOps.imul_0 (show EP X pins σ Q (.int (i * j) s.toks) { s with toks := s.toks + 1 } from ⟨.int _, H, I.tok _, ⟨_, rfl⟩, q⟩) hc.ok
def ipFdivW : TIp := fun x y H Q => ∃ i j, x = .int i ∧ y = .int j ∧ CDivW i j ∧ Q (.int (i / j)) H
theorem ip_fdivW : PIp X .FloorDiv ipFdivW := by
  intro pins s σ H x y v u Q I r1 r2 h
  obtain ⟨i, j, rfl, rfl, hc, q⟩ := h
  obtain ⟨t, rfl⟩ := r1
  obtain ⟨t', rfl⟩ := r2
  have h1 : (0 : Int) < j := hc.1
  refine AutoIntOps.ifloordiv_1 (by simp; omega) (by rw [PyProof.noPylong_of_log2 hc.2]; simp) (show EP X pins σ Q (.int (i.fdiv j) s.toks) { s with toks := s.toks + 1 } from ⟨.int (i / j), H, I.tok _, ?_, q⟩)
  rw [Int.fdiv_eq_ediv_of_nonneg i (by omega)]
  exact ⟨_, rfl⟩
end
end L2

set_option Elab.async false
set_option linter.all false
set_option maxRecDepth 100000
set_option maxHeartbeats 4000000
/-! EnumS: enumerate of a text, in a for or a comprehension. -/
namespace L2
open PySem PySem.Spec PyProof.Rows
def Ites (z : Str) : It :=
  ⟨fun i _ => i < z.cps.size, fun i H v H' => ∃ T c, v = .ref T ∧ H T = none ∧ H' = upd H T (.tup [.int (i : Nat), .str ⟨#[c]⟩]) ∧ z.cps[i]? = some c, fun i _ => z.cps.size ≤ i⟩
theorem draws_text {P : Program} {w : World} {A : Around} (hh : A.handled = none) (it : Addr) (x : Str) (t : Tok) :
    Draws P w A it [it] x.cps.size (fun i v => ∃ c u, x.cps[i]? = some c ∧ v = .str ⟨#[c]⟩ u) (fun i h => h.IsStrIter it (strIterType x) x t i) := by
  unfold strIterType
  by_cases h : x.cps.all (· < 128) = true
  · rw [if_pos h]
    exact Draws.strAscii hh it x t
  · rw [if_neg h]
    exact Draws.strWide hh it x t
theorem turn_enumS {P : Program} {w : World} {K : PySem.W.Frag} {elts : List Expr} {kk : Nat} {tpos : Pos} (z : Str) (t : Tok) (e it : Addr) :
    Turn P w K (.Tuple elts kk tpos) (Ites z) [e, it] e (fun i h => (∃ old, IsEnum h e it ((i : Nat) : Int) old) ∧ i ≤ z.cps.size ∧ h.IsStrIter it (strIterType z) z t i ∧ e ≠ it) where
  mem := by simp
  obj := fun i h st b hb => by
    obtain ⟨⟨old, he⟩, _, ⟨o, ho, hc, hd⟩, _⟩ := st
    have e' : b = e ∨ b = it := by simpa using hb
    rcases e' with q | q
    · rw [q]
      exact ⟨_, he, fun v y => nomatch y⟩
    · rw [q]
      refine ⟨o, ho, fun v y => ?_⟩
      rw [hd] at y
      cases y
  keep := fun i h h' st k => by
    obtain ⟨⟨old, he⟩, hi, ⟨o, ho, r⟩, hne⟩ := st
    exact ⟨⟨old, k e (by simp) _ he⟩, hi, ⟨o, k it (by simp) _ ho, r⟩, hne⟩
  item := by
    intro X hP hw hK hc i pins s σ H E I hf st hg
    subst hP hw hK
    obtain ⟨⟨old, he⟩, _, hit, hne⟩ := st
    have hg : i < z.cps.size := hg
    have hel : e < s.heap.objs.size := Heap.lt_size he
    have hil : it < s.heap.objs.size := by
      obtain ⟨_, q, _⟩ := hit
      exact Heap.lt_size q
    have hh : X.A.in1.handled = none := by simp [I.ok.hd hc]
    refine wpAny_pyNext_enum_itemD (draws_text hh it z t) he hit hg hne (by simpa using hne) fun x h' tk hx ho hit' hT hsz hk => ?_
    obtain ⟨c, u, hz, rfl⟩ := hx
    refine ⟨_, rfl, wpAny_letOwnedTupleGo_enum (s := { s with heap := h', toks := tk + 1 }) ho fun h'' he' sb => ?_⟩
    have hT2 : h''.get? s.heap.objs.size = some { cls := .type "tuple", data := .seq #[.int i tk, .str ⟨#[c]⟩ u] } := (sb.2 _ (Nat.ne_of_gt hel)).trans hT
    have new : ObjOk X.prog X.w (upd H s.heap.objs.size (.tup [.int (i : Nat), .str ⟨#[c]⟩])) h'' s.heap.objs.size (.tup [.int (i : Nat), .str ⟨#[c]⟩]) :=
      ⟨by show 2 ≤ sizeLine; decide, [.int i tk, .str ⟨#[c]⟩ u], .cons ⟨_, rfl⟩ (.cons ⟨_, rfl⟩ .nil), ⟨_, hT2, rfl, _, rfl⟩⟩
    have J : Inv X pins σ (upd H s.heap.objs.size (.tup [.int (i : Nat), .str ⟨#[c]⟩])) { s with heap := h'', toks := tk + 1 } :=
      I.turnedNew (ch := [e, it]) (fun b ob hb q => (sb.2 b (fun y => hb (by simp [y]))).trans (hk b ob (fun y => hb (by simp [y])) (fun y => hb (by simp [y])) q)) hf (Nat.le_refl _) new
    refine ⟨.ref s.heap.objs.size, _, J, rfl, ⟨_, c, rfl, I.hok.fresh (Nat.le_refl _), rfl, hz⟩, ⟨⟨.str ⟨#[c]⟩ u, ?_⟩, hg, ?_, hne⟩, fun b hb => ?_⟩
    · have e1 : ((i + 1 : Nat) : Int) = (i : Int) + 1 := by omega
      rw [e1]
      exact he'
    · obtain ⟨o, q, r⟩ := hit'
      exact ⟨o, (sb.2 it (Ne.symm hne)).trans q, r⟩
    · have hb' : b < s.heap.objs.size := by
        have e' : b = e ∨ b = it := by simpa using hb
        rcases e' with y | y
        · rw [y]
          exact hel
        · rw [y]
          exact hil
      rw [upd_ne (Nat.ne_of_lt hb')]
      exact (hf b hb).1
  done := by
    intro X hP hw hK hc i pins s σ H E I hf st hg
    subst hP hw hK
    obtain ⟨⟨old, he⟩, hi, hit, hne⟩ := st
    have hg : z.cps.size ≤ i := hg
    have hii : i = z.cps.size := by omega
    subst hii
    obtain ⟨f0, f1, f2, f3, f4, f5⟩ := hf it (by simp)
    have hh : X.A.in1.handled = none := by simp [I.ok.hd hc]
    exact wpAny_pyNext_enum_endD (draws_text hh it z t) he hit fun h' eb => ⟨rfl, I.turned (t' := s.toks) (fun b o hb q => eb b o hb q) f0 f1 f3 f4 f5⟩
  self := fun A i s Q E st h => let ⟨⟨_, he⟩, _⟩ := st; wpAny_pyIter_enum he h
def iEnumS (ta : TA) : TI := fun σ H R => ta σ H fun vs H1 => ∃ z, vs = [.str z] ∧ R (Ites z) H1
theorem pi_enumS {X : Cx} {e : Expr} {ta : TA} {p pos tpos : Pos} {elts : List Expr} {kk : Nat} (hg : Gl X "enumerate") (hm : X.mg "enumerate" = none) (ha : PA X [e] ta) (hs : starEach [e] X.env = [(false, eval e X.env)] := by rfl) :
    PI X (.Tuple elts kk tpos) (.Call (.Name "enumerate" p) [e] [] pos) (iEnumS ta) := by
  refine ⟨fun pins s σ H R I h => ?_⟩
  refine Call_ (ld_blt I hg hm boot_enumerate (PyProof.Rows.callWith_type1 (thn (ha.run pos pins s σ H _ I h) fun us s1 ⟨vs, H1, I1, r1, q1⟩ => ?_) hs rfl))
  obtain ⟨z, ex, q⟩ := q1
  subst ex
  cases r1 with
  | cons r rr =>
    cases rr
    obtain ⟨t, rfl⟩ := r
    refine call_enumerate_str fun h' he hit hsz hk => wpAny_pyIter_enum he ?_
    have I2 : Inv X pins σ H1 { s1 with heap := h' } := I1.kept (t' := s1.toks) hk
    refine ⟨s1.heap.objs.size + 1, [s1.heap.objs.size + 1, s1.heap.objs.size], _, _, H1, rfl, I2, turn_enumS z t (s1.heap.objs.size + 1) s1.heap.objs.size, ⟨⟨.none, he⟩, Nat.zero_le _, hit, Nat.succ_ne_self _⟩, fun b hb => ?_, q⟩
    have e' : b = s1.heap.objs.size + 1 ∨ b = s1.heap.objs.size := by simpa using hb
    have hle : s1.heap.objs.size ≤ b := by
      rcases e' with q | q
      · rw [q]
        exact Nat.le_add_right _ _
      · rw [q]
        exact Nat.le_refl _
    exact I1.fpOk hle (I1.hok.fresh hle)
theorem walk_enumS {z : Str} : Walk (Ites z) z.cps.size (fun _ => True) (fun i H v H' => ∃ T c, v = .ref T ∧ H T = none ∧ H' = upd H T (.tup [.int (i : Nat), .str ⟨#[c]⟩]) ∧ z.cps[i]? = some c) :=
  ⟨fun _ _ hi _ => hi, fun _ _ => Nat.le_refl _, fun _ _ _ _ _ _ y => y⟩
end L2

set_option Elab.async false
set_option linter.all false
set_option maxRecDepth 100000
set_option maxHeartbeats 4000000
/-! EnumT: enumerate of a tuple, in a for or a comprehension. -/
namespace L2
open PySem PySem.Spec PyProof.Rows
abbrev itTup (t : Addr) : Obj := { cls := .type "tuple_iterator", data := .fields #[.ref t, .int 0 0] }
abbrev obEnum (i : Addr) : Obj := { cls := .type "enumerate", data := .fields #[.none, .bool false, .ref i, rawInt 0, .none, .none] }
theorem meets_enum_tup (t : Addr) (its : Array Value) (n : Nat) (dd : Option Addr) (ss : Array (Option Value)) :
    Meets (Builtin.«enumerate.__new__» ⟨[.type "enumerate", .ref t], []⟩) (fun _ R s => s.heap.get? t = some { cls := .type "tuple", dict := dd, data := .seq its n, slots := ss } ∧
      R (.ok (.ret (.ref (s.heap.push (itTup t)).objs.size))) { s with heap := (s.heap.push (itTup t)).push (obEnum s.heap.objs.size) }) :=
  .of_wp fun prog w A R s h => by
    obtain ⟨hp, g, d, tk, os⟩ := s
    obtain ⟨ht, h⟩ := h
    have sb := sub_enumerate
    have tT : Heap.IsTuple (Shared.heap ⟨hp, g, d, tk, os⟩) t its := ⟨_, ht, rfl, n, rfl⟩
    wp_walk using AutoSeq1.wpAny_loadPart' ht
    refine wpAny_stack_any fun st => wpAny_pure ?_
    split
    · rename_i c _ _ _ _ _
      cases (c == Value.type "enumerate")
      · wp_walk using AutoSeq1.wpAny_loadPart' ht, wpAny_pyIter_tuple tT
        exact ⟨_, rfl, h⟩
      · wp_walk using AutoSeq1.wpAny_loadPart' ht, wpAny_pyIter_tuple tT
        exact ⟨_, rfl, h⟩
    · wp_walk using AutoSeq1.wpAny_loadPart' ht, wpAny_pyIter_tuple tT
      exact ⟨_, rfl, h⟩
section
variable {prog : Program} {w : World} {A : Around} {E : Value → Shared → Prop} {s : Shared}
theorem call_enum_tup {t : Addr} {its : Array Value} {Q : Value → Shared → Prop} (hT : s.heap.IsTuple t its)
    (h : ∀ h', IsEnum h' (s.heap.objs.size + 1) s.heap.objs.size 0 .none → h'.IsTupleIter s.heap.objs.size t 0 → h'.objs.size = s.heap.objs.size + 2 → (∀ b o, s.heap.get? b = some o → h'.get? b = some o) → Q (.ref (s.heap.objs.size + 1)) { s with heap := h' }) :
    wpAny (model prog w) A (call (.type "enumerate") [.ref t]) Q E s := by
  obtain ⟨⟨c, dd, dt, ss⟩, ht, hc, n, hd⟩ := hT
  replace hc : c = .type "tuple" := hc
  replace hd : dt = .seq its n := hd
  subst hc hd
  refine callType_new F.called_enumerate (by decide) (F.typeCall_enumerate_1 _) (F.newCall_enumerate_1 _) (fun obj => F.args_object_init_2 obj _) F.entry_enumerate_new (meets_enum_tup t its n dd ss) ⟨ht, ?_⟩
  have hz : (s.heap.push (itTup t)).objs.size = s.heap.objs.size + 1 := Heap.size_push ..
  show _ ∧ _
  rw [hz]
  have he : IsEnum ((s.heap.push (itTup t)).push (obEnum s.heap.objs.size)) (s.heap.objs.size + 1) s.heap.objs.size 0 .none := by
    have q := Heap.get?_push_size (s.heap.push (itTup t)) (o := obEnum s.heap.objs.size) rfl
    rw [hz] at q
    exact q
  exact ⟨⟨_, he, rfl⟩, h _ he ⟨_, Heap.get?_push_of_some _ (Heap.get?_push_size _ rfl), rfl, rfl⟩ (by rw [Heap.size_push, hz]) fun b o x => Heap.get?_push_of_some _ (Heap.get?_push_of_some _ x)⟩
end
/-- the tuple at a as it stands at each turn, each item in a new pair -/
def ItT (K : PySem.W.Frag) (a : Addr) : It :=
  ⟨fun i H => ∃ (xs : List V) (x : V), SqT K H a xs ∧ xs[i]? = some x, fun i H v H' => ∃ T x, v = .ref T ∧ H T = none ∧ H' = upd H T (.tup [.int (i : Nat), x]) ∧ ∀ xs, SqT K H a xs → xs[i]? = some x, fun i H => ∃ xs : List V, SqT K H a xs ∧ xs.length ≤ i⟩
theorem turn_enumT {P : Program} {w : World} {K : PySem.W.Frag} {elts : List Expr} {kk : Nat} {tpos : Pos} (a e it : Addr) :
    Turn P w K (.Tuple elts kk tpos) (ItT K a) [e, it] e (fun i h => (∃ old, IsEnum h e it ((i : Nat) : Int) old) ∧ h.IsTupleIter it a i ∧ e ≠ it) where
  mem := by simp
  obj := fun i h st b hb => by
    obtain ⟨⟨old, he⟩, ⟨o, ho, hc, hd⟩, _⟩ := st
    have e' : b = e ∨ b = it := by simpa using hb
    rcases e' with q | q
    · rw [q]
      exact ⟨_, he, fun v y => nomatch y⟩
    · rw [q]
      refine ⟨o, ho, fun v y => ?_⟩
      rw [hd] at y
      cases y
  keep := fun i h h' st k => by
    obtain ⟨⟨old, he⟩, ⟨o, ho, r⟩, hne⟩ := st
    exact ⟨⟨old, k e (by simp) _ he⟩, ⟨o, k it (by simp) _ ho, r⟩, hne⟩
  item := by
    intro X hP hw hK hc i pins s σ H E I hf st hg
    subst hP hw hK
    obtain ⟨⟨old, he⟩, hit, hne⟩ := st
    obtain ⟨xs, x, hq, hx⟩ := hg
    obtain ⟨its, rv, tp, hz⟩ := I.tuple hq
    obtain ⟨u, hu, ru⟩ := rv.get hx
    have hel : e < s.heap.objs.size := Heap.lt_size he
    have hil : it < s.heap.objs.size := by
      obtain ⟨_, q, _⟩ := hit
      exact Heap.lt_size q
    have hh : X.A.in1.handled = none := by simp [I.ok.hd hc]
    have nai : a ≠ it := fun y => by
      obtain ⟨o1, q1, c1, _⟩ := hit
      obtain ⟨o2, q2, c2, _⟩ := tp
      rw [y, q1] at q2
      rw [← Option.some.inj q2, c1] at c2
      exact absurd c2 (by decide)
    have nae : e ≠ a := fun y => by
      obtain ⟨o2, q2, c2, _⟩ := tp
      rw [← y, show s.heap.get? e = _ from he] at q2
      rw [← Option.some.inj q2] at c2
      have c3 : Value.type "enumerate" = Value.type "tuple" := c2
      exact absurd c3 (by decide)
    have ixl : i < its.toArray.size := by
      rw [List.size_toArray]
      exact (List.getElem?_eq_some_iff.mp hu).1
    refine wpAny_pyNext_enum_itemD (Draws.tuple hh it a nai its.toArray) he ⟨hit, tp⟩ ixl hne (by simp [hne, nae]) fun y h' tk hy ho hit' hT hsz hk => ?_
    have hy : its.toArray[i]? = some y := hy
    obtain rfl : u = y := by
      rw [List.getElem?_toArray, hu] at hy
      exact Option.some.inj hy
    refine ⟨_, rfl, wpAny_letOwnedTupleGo_enum (s := { s with heap := h', toks := tk + 1 }) ho fun h'' he' sb => ?_⟩
    have hT2 : h''.get? s.heap.objs.size = some { cls := .type "tuple", data := .seq #[.int i tk, u] } := (sb.2 _ (Nat.ne_of_gt hel)).trans hT
    have new : ObjOk X.prog X.w (upd H s.heap.objs.size (.tup [.int (i : Nat), x])) h'' s.heap.objs.size (.tup [.int (i : Nat), x]) :=
      ⟨by show 2 ≤ sizeLine; decide, [.int i tk, u], .cons ⟨_, rfl⟩ (.cons ru .nil), ⟨_, hT2, rfl, _, rfl⟩⟩
    have J : Inv X pins σ (upd H s.heap.objs.size (.tup [.int (i : Nat), x])) { s with heap := h'', toks := tk + 1 } :=
      I.turnedNew (ch := [e, it]) (fun b ob hb q => (sb.2 b (fun y => hb (by simp [y]))).trans (hk b ob (fun y => hb (by simp [y])) (fun y => hb (by simp [y])) q)) hf (Nat.le_refl _) new
    refine ⟨.ref s.heap.objs.size, _, J, rfl, ⟨_, x, rfl, I.hok.fresh (Nat.le_refl _), rfl, fun ys hy => by rw [I.tuple_inj hy hq]; exact hx⟩, ⟨⟨u, ?_⟩, ?_, hne⟩, fun b hb => ?_⟩
    · have e1 : ((i + 1 : Nat) : Int) = (i : Int) + 1 := by omega
      rw [e1]
      exact he'
    · obtain ⟨o, q, r⟩ := hit'.1
      exact ⟨o, (sb.2 it (Ne.symm hne)).trans q, r⟩
    · have hb' : b < s.heap.objs.size := by
        have e' : b = e ∨ b = it := by simpa using hb
        rcases e' with y | y
        · rw [y]
          exact hel
        · rw [y]
          exact hil
      rw [upd_ne (Nat.ne_of_lt hb')]
      exact (hf b hb).1
  done := by
    intro X hP hw hK hc i pins s σ H E I hf st hg
    subst hP hw hK
    obtain ⟨⟨old, he⟩, hit, hne⟩ := st
    obtain ⟨xs, hq, hx⟩ := hg
    obtain ⟨its, rv, tp, hz⟩ := I.tuple hq
    obtain ⟨f0, f1, f2, f3, f4, f5⟩ := hf it (by simp)
    have hl := rv.length
    have hh : X.A.in1.handled = none := by simp [I.ok.hd hc]
    have D : Draws X.prog X.w X.A.in1 it [it, a] i (fun _ _ => False) (fun j h => j = i ∧ h.IsTupleIter it a i ∧ h.IsTuple a its.toArray) :=
      { live := fun j h st => let ⟨o, ho, _⟩ := st.2.1; ⟨o, ho⟩
        frame := fun j h h' st hk => ⟨st.1, st.2.1.at fun o e => hk it (by simp) o e, st.2.2.at fun o e => hk a (by simp) o e⟩
        item := fun j s Q E hj st hQ => absurd st.1 (Nat.ne_of_lt hj)
        done := fun s Q E st hE => wpAny_nextOf_tuple_end hh st.2.1 st.2.2 (by simp; omega) hE }
    exact wpAny_pyNext_enum_endD D he ⟨rfl, hit, tp⟩ fun h' eb => ⟨rfl, I.turned (t' := s.toks) (fun b o hb q => eb b o hb q) f0 f1 f3 f4 f5⟩
  self := fun A i s Q E st h => let ⟨⟨_, he⟩, _⟩ := st; wpAny_pyIter_enum he h
def iEnumT (K : PySem.W.Frag) (ta : TA) : TI := fun σ H R => ta σ H fun vs H1 => ∃ a xs, vs = [.ref a] ∧ SqT K H1 a xs ∧ R (ItT K a) H1
theorem pi_enumT {X : Cx} {e : Expr} {ta : TA} {p pos tpos : Pos} {elts : List Expr} {kk : Nat} (hg : Gl X "enumerate") (hm : X.mg "enumerate" = none) (ha : PA X [e] ta) (hs : starEach [e] X.env = [(false, eval e X.env)] := by rfl) :
    PI X (.Tuple elts kk tpos) (.Call (.Name "enumerate" p) [e] [] pos) (iEnumT X.K ta) := by
  refine ⟨fun pins s σ H R I h => ?_⟩
  refine Call_ (ld_blt I hg hm boot_enumerate (PyProof.Rows.callWith_type1 (thn (ha.run pos pins s σ H _ I h) fun us s1 ⟨vs, H1, I1, r1, q1⟩ => ?_) hs rfl))
  obtain ⟨a, xs, ex, hq, q⟩ := q1
  subst ex
  cases r1 with
  | cons r rr =>
    cases rr
    cases r
    obtain ⟨its, rv, tp, hz⟩ := I1.tuple hq
    refine call_enum_tup tp fun h' he hit hsz hk => wpAny_pyIter_enum he ?_
    have I2 : Inv X pins σ H1 { s1 with heap := h' } := I1.kept (t' := s1.toks) hk
    refine ⟨s1.heap.objs.size + 1, [s1.heap.objs.size + 1, s1.heap.objs.size], _, _, H1, rfl, I2, turn_enumT a (s1.heap.objs.size + 1) s1.heap.objs.size, ⟨⟨.none, he⟩, hit, Nat.succ_ne_self _⟩, fun b hb => ?_, q⟩
    have e' : b = s1.heap.objs.size + 1 ∨ b = s1.heap.objs.size := by simpa using hb
    have hle : s1.heap.objs.size ≤ b := by
      rcases e' with q | q
      · rw [q]
        exact Nat.le_add_right _ _
      · rw [q]
        exact Nat.le_refl _
    exact I1.fpOk hle (I1.hok.fresh hle)
theorem walk_enumT {K : PySem.W.Frag} {a : Addr} {xs : List V} : Walk (ItT K a) xs.length (fun H => SqT K H a xs) (YPair (fun i => some (.int (i : Nat))) (fun i => xs[i]?)) := by
  refine ⟨fun i _ hi q => ⟨xs, xs[i], q, by simp [hi]⟩, fun _ q => ⟨xs, q, Nat.le_refl _⟩, fun i H v H' _ q y => ?_⟩
  obtain ⟨T, x, h1, h2, h3, h4⟩ := y
  exact ⟨T, .int (i : Nat), x, h1, h2, h3, rfl, h4 xs q⟩
end L2

set_option Elab.async false
set_option linter.all false
set_option maxRecDepth 100000
set_option maxHeartbeats 4000000
namespace T12
open PySem PySem.Spec PyProof.Rows L2 EK BwL
abbrev sCkTexts : Stmt := top 8
abbrev sSF : Stmt := top 14
abbrev sTN : Stmt := top 15
abbrev sEN : Stmt := top 13
abbrev sRW : Stmt := top 12
abbrev sRO : Stmt := top 10
abbrev sRL : Stmt := top 11
structure TxtP (K : PySem.W.Frag) (mg : Str → Option Value) : Prop where
  isinstance : mg "isinstance" = none
  str : mg "str" = none
  tuple : mg "tuple" = none
  all : mg "all" = none
  len : mg "len" = none
  range : mg "range" = none
  max : mg "max" = none
  ord : mg "ord" = none
  sorted : mg "sorted" = none
  enumerate : mg "enumerate" = none
  letters : ∃ u, mg "LETTERS" = some u ∧ RelV (.str letS) u
  endS : ∃ u, mg "END" = some u ∧ RelV (.str "$") u
def spTx : Sp := fun vs H Q _ => ∃ t : List Nat, vs = [.str (strL t)] ∧ t.length ≤ 310 ∧ isT (strL t) = true ∧ ∀ H', Same H H' → Q (.bl true) H'
def spCT : Sp := fun vs H Q _ => ∃ t : List Nat, vs = [.str (strL t)] ∧ t.length ≤ 310 ∧ isT (strL t) = true ∧ ∀ H', Same H H' → Q .non H'
def wsV (ws : List (List Nat)) : List V := ws.map fun t => V.str (strL t)
structure Good (ts : List (List Nat)) : Prop where
  few : ts.length ≤ 400
  small : ∀ t ∈ ts, t.length ≤ 310
  lets : ∀ t ∈ ts, isT (strL t) = true
def spCTS : Sp := fun vs H Q _ => ∃ (a : Addr) (ts : List (List Nat)), vs = [.ref a] ∧ H a = some (.tup (wsV ts)) ∧ Good ts ∧ ∀ H', Same H H' → Q .non H'
def SufAt (H : Hp) (x : V) (z : List Int × Nat) : Prop := ∃ a b, x = .ref a ∧ H a = some (.tup [.ref b, .str (strL [z.2])]) ∧ H b = some (.lst (z.1.map V.int))
def SufB (B : Addr) (H : Hp) (x : V) (z : List Int × Nat) : Prop := ∃ a b, x = .ref a ∧ H a = some (.tup [.ref b, .str (strL [z.2])]) ∧ H b = some (.lst (z.1.map V.int)) ∧ b ≠ B
theorem SufAt.keep {H H' : Hp} {x : V} {z : List Int × Nat} (h : SufAt H x z) (s : Same H H') : SufAt H' x z := by
  obtain ⟨a, b, e, h1, h2⟩ := h
  exact ⟨a, b, e, s _ _ h1, s _ _ h2⟩
theorem SufB.keep {B : Addr} {H H' : Hp} {x : V} {z : List Int × Nat} (h : SufB B H x z) (s : Same H H') : SufB B H' x z := by
  obtain ⟨a, b, e, h1, h2, n⟩ := h
  exact ⟨a, b, e, s _ _ h1, s _ _ h2, n⟩
theorem SufB.put {B : Addr} {H : Hp} {xs ys : List V} {x : V} {z : List Int × Nat} (h : SufB B H x z) (hB : H B = some (.lst xs)) : SufB B (upd H B (.lst ys)) x z := by
  obtain ⟨a, b, e, h1, h2, n⟩ := h
  exact ⟨a, b, e, by rw [upd_ne (fun z => by rw [z, hB] at h1; cases h1)]; exact h1, by rw [upd_ne n]; exact h2, n⟩
theorem SufB.at {B : Addr} {H : Hp} {x : V} {z : List Int × Nat} (h : SufB B H x z) : SufAt H x z := by
  obtain ⟨a, b, e, h1, h2, n⟩ := h
  exact ⟨a, b, e, h1, h2⟩
def spSF : Sp := fun vs H Q _ => ∃ (a : Addr) (ts : List (List Nat)), vs = [.ref a] ∧ H a = some (.tup (wsV ts)) ∧ Good ts ∧ ∀ q ys H', Same H H' → H' q = some (.lst ys) → All2 (SufAt H') ys ((items ts).map (BwL.sufZ ts)) → Q (.ref q) H'
def spTN : Sp := fun vs H Q _ => ∃ (b : Addr) (m : Int), vs = [.ref b, .int m] ∧ H b = some (.tup []) ∧ ∀ q H', Same H H' → H' q = some (.lst []) → Q (.ref q) H'
def spEN : Sp := fun vs H Q _ => ∃ (a b : Addr) (ts : List (List Nat)), vs = [.ref a, .ref b] ∧ H a = some (.tup (wsV ts)) ∧ H b = some (.tup []) ∧ Good ts ∧ ∀ (m : Int) H', Same H H' → Q (.int m) H'
def spRW : Sp := fun vs H Q _ => ∃ (a b : Addr) (ts : List (List Nat)) (l : List Pt), vs = [.ref a, .ref b] ∧ H a = some (.tup (wsV ts)) ∧ H b = some (.tup []) ∧ Good ts ∧ LOrd ts l ∧ ∀ H', Same H H' → Q (.str (strL (BwL.rowL ts l))) H'
def spRO : Sp := fun vs H Q _ => ∃ (t : List Nat) (l : List Pt), vs = [.str (strL t)] ∧ t.length ≤ 310 ∧ isT (strL t) = true ∧ LOrd [t] l ∧ ∀ H', Same H H' → Q (.str (strL (BwL.rowL [t] l))) H'
def spRL : Sp := fun vs H Q _ => ∃ (a : Addr) (ts : List (List Nat)) (l : List Pt), vs = [.ref a] ∧ H a = some (.tup (wsV ts)) ∧ Good ts ∧ LOrd ts l ∧ ∀ H', Same H H' → Q (.str (strL (BwL.rowL ts l))) H'
theorem yes_i {σ : L2.St} {H : Hp} {Q : Bool → Hp → Prop} (h : Q true H) : tYes σ H Q := h
theorem cut_tailN (xs : List V) (k : Nat) : cutV xs (some (k : Int)) none = xs.drop k := by
  unfold cutV
  rw [HT.sIx_none, HT.sIx_nat]
  by_cases h : xs.length ≤ k
  · rw [Nat.min_eq_right h, List.drop_length, List.drop_of_length_le h, List.take_nil]
  · rw [Nat.min_eq_left (by omega), List.take_of_length_le (by rw [List.length_drop]; omega)]
theorem cut_headN (xs : List V) (k : Nat) : cutV xs none (some (k : Int)) = xs.take k := by
  unfold cutV
  rw [HT.sIx_none, HT.sIx_nat, List.drop_zero, Nat.sub_zero]
  by_cases h : xs.length ≤ k
  · rw [Nat.min_eq_right h, List.take_length, List.take_of_length_le h]
  · rw [Nat.min_eq_left (by omega)]
theorem codes_drop (t : List Nat) (e : Int) (i : Nat) (h : i ≤ t.length) : cutV ((codesN t e).map V.int) (some (i : Int)) none = (codesN (t.drop i) e).map V.int := by
  have e2 : (codesN t e).drop i = codesN (t.drop i) e := by
    unfold codesN
    rw [List.drop_append_of_le_length (by rw [List.length_map]; exact h), List.map_drop]
  rw [← e2, List.map_drop]
  exact cut_tailN _ i
def itemsTo (ts : List (List Nat)) (i : Nat) : List Pt := (List.range i).flatMap fun j => (List.range ((tx ts j).length + 1)).map fun p => ((j, p) : Pt)
theorem itemsTo_succ (ts : List (List Nat)) (i : Nat) : itemsTo ts (i + 1) = itemsTo ts i ++ (List.range ((tx ts i).length + 1)).map fun p => ((i, p) : Pt) := by
  unfold itemsTo
  rw [List.range_succ, List.flatMap_append, List.flatMap_cons, List.flatMap_nil, List.append_nil]
theorem tx_at {ts : List (List Nat)} {i : Nat} {t : List Nat} (h : ts[i]? = some t) : tx ts i = t := by
  unfold tx
  rw [List.getD_eq_getElem?_getD, h]
  rfl
theorem itemsTo_len {ts : List (List Nat)} (g : Good ts) : ∀ i, (itemsTo ts i).length ≤ i * 311
  | 0 => Nat.le_refl _
  | i + 1 => by
    have ih := itemsTo_len g i
    rw [itemsTo_succ, List.length_append, List.length_map, List.length_range]
    have : (tx ts i).length ≤ 310 := by
      unfold tx
      rw [List.getD_eq_getElem?_getD]
      cases e : ts[i]? with
      | none => exact Nat.zero_le _
      | some t => exact g.small t (List.mem_of_getElem? e)
    omega
theorem row_small {ts : List (List Nat)} {l : List Pt} (g : Good ts) (h : LOrd ts l) : l.length ≤ 130000 := by
  rw [← (items_perm h).length_eq]
  have := itemsTo_len g ts.length
  have := g.few
  show (itemsTo ts ts.length).length ≤ _
  have : ts.length * 311 ≤ 400 * 311 := Nat.mul_le_mul_right _ this
  omega
theorem good1 {t : List Nat} (h : t.length ≤ 310) (b : isT (strL t) = true) : Good [t] := ⟨by show 1 ≤ 400; omega, fun x hx => by rw [List.mem_singleton.mp hx]; exact h, fun x hx => by rw [List.mem_singleton.mp hx]; exact b⟩
section
variable {P : Program} {w : World} {K : PySem.W.Frag} {mg : Str → Option Value} {base : Heap}
theorem scIT : FnScope ["value", "sign"] ["value"] (defScope sIsText) := ⟨rfl, rfl, rfl, by decide +kernel, rfl, by decide +kernel, by decide +kernel⟩
theorem scCT : FnScope ["text"] ["text"] (defScope sCkText) := ⟨rfl, rfl, rfl, by decide +kernel, rfl, by decide +kernel, by decide +kernel⟩
theorem scCTS : FnScope ["texts", "text"] ["texts"] (defScope sCkTexts) := ⟨rfl, rfl, rfl, by decide +kernel, rfl, by decide +kernel, by decide +kernel⟩
theorem scSF : FnScope ["texts", "suffixes", "number", "text", "signs", "place", "ahead", "letter"] ["texts"] (defScope sSF) := ⟨rfl, rfl, rfl, by decide +kernel, rfl, by decide +kernel, by decide +kernel⟩
theorem scTN : FnScope ["rings", "many", "turns", "ring", "signs", "endless", "place", "letter"] ["rings", "many"] (defScope sTN) := ⟨rfl, rfl, rfl, by decide +kernel, rfl, by decide +kernel, by decide +kernel⟩
theorem scEN : FnScope ["texts", "rings", "text", "ring"] ["texts", "rings"] (defScope sEN) := ⟨rfl, rfl, rfl, by decide +kernel, rfl, by decide +kernel, by decide +kernel⟩
theorem scRW : FnScope ["texts", "rings", "marked", "signs", "ahead"] ["texts", "rings"] (defScope sRW) := ⟨rfl, rfl, rfl, by decide +kernel, rfl, by decide +kernel, by decide +kernel⟩
theorem scRO : FnScope ["text"] ["text"] (defScope sRO) := ⟨rfl, rfl, rfl, by decide +kernel, rfl, by decide +kernel, by decide +kernel⟩
theorem scRL : FnScope ["texts"] ["texts"] (defScope sRL) := ⟨rfl, rfl, rfl, by decide +kernel, rfl, by decide +kernel, by decide +kernel⟩
theorem ok_IT {f : Addr} {fd : FuncData} (F : Fun K "is_text" "is_text" sIsText f fd) (T : TxtP K mg) : FnOk P w K mg base CX0 1 f fd ["value"] spTx := by
  refine F.ok scIT (fun vs H Q E h => ?_) (fun cdv A outer s H vs Q E hr h => ?_)
  · obtain ⟨t, rfl, _⟩ := h
    rfl
  · obtain ⟨t, rfl, hl, hb, k⟩ := h
    have nd := scIT.nd
    refine ⟨_, (pss_one (ps_ret (pe_and (pe_callB call_isi (by rfl) T.isinstance (by decide +kernel) (pa_cons (pv 0) (pa_cons (pe_bltn (v := .ty "str") rfl T.str (by decide +kernel) rfl) pa_nil))) (pe_one (pe_callB (cr_all rfl) (by rfl) T.all (by decide +kernel) (pa_cons (pe_lc (own := [("sign", 1)]) (g := gName 1) (tt := tYes) rfl nd (pi_str (pv 0)) (blkOk_by (N := ["value", "sign"]) (sc := defScope sIsText) (by decide +kernel)) (fun _ _ _ _ _ => (pg_name (i := 1) nd rfl (Or.inl rfl))) (fun _ _ _ _ _ => pts_nil) (fun _ _ _ _ _ => (pe_cmpR op_in_sign (pv 1) (C8.pe_gc (by rfl) T.letters) (by rfl)))) pa_nil)))))), ?_⟩
    obtain ⟨ty, ht, hk⟩ := (Pl.str (H := H) (strL t)).isStr (K := K)
    refine ⟨_, rfl, _, _, _, _, _, rfl, .ty _, ht, hk, _, rfl, _, rfl, strL t, rfl, fun D hD => lc_it (walk_str (z := strL t)) (fun i H' => Same H H' ∧ H' D = some (.lst (((t.take i).map fun c => decide (c ∈ letS.cps.toList)).map V.bl))) ⟨fun b o e => by rw [upd_ne (ne_of_none e hD)]; exact e, upd_same⟩ (fun _ _ _ _ => trivial) ?_ ?_⟩
    · rintro i y H1 H2 hi ⟨s1, d1⟩ ⟨rfl, c, hc, rfl⟩
      have hc' : t[i]? = some c := by rw [← strL_list t, Array.getElem?_toList]; exact hc
      refine ⟨rfl, ?_⟩
      refine ⟨_, rfl, c, _, rfl, rfl, _, d1, ?_, fun b o e => ?_, ?_⟩
      · rw [List.length_map, List.length_map, List.length_take]
        exact Nat.lt_of_le_of_lt (Nat.min_le_right _ _) (Nat.lt_of_le_of_lt hl (by decide))
      · rw [upd_ne (ne_of_none e hD)]
        exact s1 _ _ e
      · rw [upd_same, List.take_succ, hc', List.map_append, List.map_append]
        rfl
    · rintro H1 ⟨s1, d1⟩
      rw [strL_size, List.take_length] at d1
      refine ⟨D, _, rfl, .of d1, ?_⟩
      have e : ((t.map fun c => decide (c ∈ letS.cps.toList)).all id) = true := by
        rw [List.all_map]
        unfold isT at hb
        rw [strL_list] at hb
        exact hb
      rw [e]
      exact k H1 s1
theorem ok_CT {f fIT : Addr} {fd fdIT : FuncData} (F : Fun K "check_text" "check_text" sCkText f fd)
    (GIT : FnOk P w K mg base CX0 1 fIT fdIT ["value"] spTx) (gIT : mg "is_text" = some (.ref fIT)) (kIT : PySem.W.keepIn K (.ref fIT) = true) (bIT : Binds K fdIT ["value"] []) : FnOk P w K mg base CX0 2 f fd ["text"] spCT := by
  refine F.ok scCT (fun vs H Q E h => ?_) (fun cdv A outer s H vs Q E hr h => ?_)
  · obtain ⟨t, rfl, _⟩ := h
    rfl
  · obtain ⟨t, rfl, hl, hb, k⟩ := h
    have nd := scCT.nd
    have hrIT : Room 1 _ := hr
    refine ⟨_, pss_one (ps_if (pt_not (pt_val (pe_call GIT hrIT rfl gIT kIT bIT .nil pass0 (pa_cons (pv 0) pa_nil)))) pss_never pss_nil), ?_⟩
    exact ⟨_, rfl, t, rfl, hl, hb, fun H1 s1 => ⟨_, rfl, k H1 s1⟩⟩
theorem ok_CTS {f fCT : Addr} {fd fdCT : FuncData} (F : Fun K "check_texts" "check_texts" sCkTexts f fd) (T : TxtP K mg)
    (GCT : FnOk P w K mg base CX0 2 fCT fdCT ["text"] spCT) (gCT : mg "check_text" = some (.ref fCT)) (kCT : PySem.W.keepIn K (.ref fCT) = true) (bCT : Binds K fdCT ["text"] []) : FnOk P w K mg base CX0 3 f fd ["texts"] spCTS := by
  refine F.ok scCTS (fun vs H Q E h => ?_) (fun cdv A outer s H vs Q E hr h => ?_)
  · obtain ⟨a, ts, rfl, _⟩ := h
    rfl
  · obtain ⟨a, ts, rfl, ha, hg, k⟩ := h
    have nd := scCTS.nd
    have hrCT : Room 2 _ := hr
    refine ⟨_, (pss_cons (ps_if (pt_not (pt_val (pe_callB call_isi (by rfl) T.isinstance (by decide +kernel) (pa_cons (pv 0) (pa_cons (pe_bltn (v := .ty "tuple") rfl T.tuple (by decide +kernel) rfl) pa_nil))))) pss_never pss_nil)
      (pss_one (ps_for PassesOwn.never rfl (pi_tup (pv 0)) (pg_name (i := 1) nd rfl (Or.inl rfl)) (pss_one (ps_expr (pe_call GCT hrCT rfl gCT kCT bCT .nil pass0 (pa_cons (pv 1) pa_nil))))))), ?_⟩
    refine ⟨_, rfl, _, _, _, _, _, rfl, .ty _, .base (.tup ha), kit_ty (r := true) (by decide +kernel), _, rfl, ?_⟩
    refine ⟨_, rfl, a, rfl, ⟨_, .of ha⟩, for_tup (K := K) (a := a) (xs := wsV ts) (fun i σ H' => ∃ v1 : Option V, σ = [some (.ref a), v1] ∧ Same H H') ⟨_, rfl, .refl _⟩ (fun i σ H' _ ⟨_, _, s⟩ => .of (s _ _ ha)) ?_ ?_⟩
    · rintro i y σ H1 hi ⟨v1, rfl, s1⟩
      unfold wsV at hi
      rw [List.getElem?_map] at hi
      obtain ⟨t, ht, rfl⟩ := Option.map_eq_some_iff.mp hi
      have tm := List.mem_of_getElem? ht
      exact ⟨_, rfl, t, rfl, hg.small t tm, hg.lets t tm, fun H2 s2 => ⟨_, rfl, s1.trans s2⟩⟩
    · rintro σ H1 ⟨v1, rfl, s1⟩
      exact k H1 s1
theorem ok_SF {f : Addr} {fd : FuncData} (F : Fun K "_suffixes" "_suffixes" sSF f fd) (T : TxtP K mg) : FnOk P w K mg base CX0 1 f fd ["texts"] spSF := by
  refine F.ok scSF (fun vs H Q E h => ?_) (fun cdv A outer s H vs Q E hr h => ?_)
  · obtain ⟨a, ts, rfl, _⟩ := h
    rfl
  · obtain ⟨a, ts, rfl, ha, hg, k⟩ := h
    have nd := scSF.nd
    have hz : sizeLine = 2 ^ 24 := sizeLine_eq
    have hfew := hg.few
    have wlen : (wsV ts).length = ts.length := List.length_map ..
    refine ⟨_, (pss_cons (ps_set (i := 1) nd rfl (Or.inl rfl) (pe_lst pa_nil))
      (pss_cons (ps_for PassesOwn.never rfl (pi_enumT (by rfl) T.enumerate (pa_cons (pv 0) pa_nil)) (pg_tup rfl (pgs_cons (pg_name (i := 2) nd rfl (Or.inl rfl)) (pgs_cons (pg_name (i := 3) nd rfl (Or.inl rfl)) pgs_nil))) (pss_cons (ps_set (i := 4) nd rfl (Or.inl rfl) (pe_op op_cat (pe_lc (own := [("letter", 7)]) (g := gName 7) (tt := tYes) rfl nd (pi_str (pv 3)) (blkOk_by (N := ["texts", "suffixes", "number", "text", "signs", "place", "ahead", "letter"]) (sc := defScope sSF) (by decide +kernel)) (fun _ _ _ _ _ => (pg_name (i := 7) nd rfl (Or.inl rfl))) (fun _ _ _ _ _ => pts_nil) (fun _ _ _ _ _ => (pe_callB call_ord (by rfl) T.ord (by decide +kernel) (pa_cons (pv 7) pa_nil)))) (pe_lst (pa_cons (pe_op op_sub (pv 2) (pe_callB call_len_seq (by rfl) T.len (by decide +kernel) (pa_cons (pv 0) pa_nil))) pa_nil))))
      (pss_one (ps_for PassesOwn.never rfl (pi_enumS (by rfl) T.enumerate (pa_cons (pe_op op_add_str (C8.pe_gc (by rfl) T.endS) (pv 3)) pa_nil)) (pg_tup rfl (pgs_cons (pg_name (i := 5) nd rfl (Or.inl rfl)) (pgs_cons (pg_name (i := 6) nd rfl (Or.inl rfl)) pgs_nil))) (pss_one (ps_expr (pe_bm PySem.F.plainAttrs_list PySem.F.slot_list_append PySem.F.type_list_append mt_append (pv 1) (pa_cons (pe_tup (pa_cons (pe_slice sl_list (pv 4) (po_some (pv 5)) po_none) (pa_cons (pv 6) pa_nil))) pa_nil))))))))
      (pss_one (ps_ret (pv 1))))), ?_⟩
    refine ⟨(by show 0 ≤ sizeLine; omega), fun B zB => ?_⟩
    obtain ⟨H1, e1, S1, A1⟩ := alloc (o := .lst []) zB
    rw [e1]
    have aB : a ≠ B := fun z => by rw [z, zB] at ha; cases ha
    refine ⟨_, rfl, a, _, rfl, .of (S1 _ _ ha), for_it (walk_enumT (K := K) (a := a) (xs := wsV ts)) (fun i σ H' => ∃ v2 v3 v4 v5 v6 v7 : Option V, σ = [some (.ref a), some (.ref B), v2, v3, v4, v5, v6, v7] ∧ KeepB B H1 H' ∧ ∃ ys, H' B = some (.lst ys) ∧ All2 (SufB B H') ys ((itemsTo ts i).map (BwL.sufZ ts))) ⟨_, _, _, _, _, _, rfl, fun _ _ e _ => e, [], A1, .nil⟩ (fun i σ H' _ ⟨_, _, _, _, _, _, _, kb, _⟩ => .of (kb _ _ (S1 _ _ ha) aB)) ?_ ?_⟩
    · rintro i y σ H2 H2' hi ⟨v2, v3, v4, v5, v6, v7, rfl, kb, ys, hB, hall⟩ ⟨T0, x1, y1, rfl, hT, rfl, ex, ey⟩
      have hi2 : i < ts.length := by rw [← wlen]; exact hi
      obtain rfl : V.int (i : Nat) = x1 := Option.some.inj ex
      have ey : (wsV ts)[i]? = some y1 := ey
      unfold wsV at ey
      rw [List.getElem?_map] at ey
      obtain ⟨t, ht, rfl⟩ := Option.map_eq_some_iff.mp ey
      have htx := tx_at ht
      have hl := hg.small t (List.mem_of_getElem? ht)
      obtain ⟨H3, e3, S3, A3⟩ := alloc (o := .tup [.int (i : Nat), .str (strL t)]) hT
      rw [e3]
      have ha3 : H3 a = some (.tup (wsV ts)) := S3 _ _ (kb _ _ (S1 _ _ ha) aB)
      refine ⟨T0, _, rfl, .of A3, rfl, _, _, rfl, _, _, rfl, rfl, ?_⟩
      refine ⟨_, rfl, strL t, rfl, fun D hD => lc_it (walk_str (z := strL t)) (fun i H' => Same H3 H' ∧ H' D = some (.lst (((t.take i).map fun c : Nat => (c : Int)).map V.int))) ⟨fun b o e => by rw [upd_ne (ne_of_none e hD)]; exact e, upd_same⟩ (fun _ _ _ _ => trivial) ?_ ?_⟩
      · rintro i y G1 G2 hi ⟨s1, d1⟩ ⟨rfl, c, hc, rfl⟩
        have hc' : t[i]? = some c := by rw [← strL_list t, Array.getElem?_toList]; exact hc
        refine ⟨rfl, ?_⟩
        refine ⟨_, rfl, ⟨#[c]⟩, rfl, rfl, _, d1, ?_, fun b o e => ?_, ?_⟩
        · rw [List.length_map, List.length_map, List.length_take]
          exact Nat.lt_of_le_of_lt (Nat.min_le_right _ _) (Nat.lt_of_le_of_lt hl (by decide))
        · rw [upd_ne (ne_of_none e hD)]
          exact s1 _ _ e
        · rw [upd_same, List.take_succ, hc', List.map_append, List.map_append]
          rfl
      · rintro G ⟨sG, dG⟩
        rw [strL_size, List.take_length] at dG
        refine ⟨_, rfl, _, rfl, a, _, rfl, .inr (.of (sG _ _ ha3)), _, _, rfl, rfl, (by show 1 ≤ sizeLine; decide), fun p hp => ?_⟩
        obtain ⟨e0, he0⟩ : ∃ e0 : Int, ((i : Nat) : Int) - ((wsV ts).length : Nat) = e0 := ⟨_, rfl⟩
        obtain ⟨G1, f1, U1, C1⟩ := alloc (o := .lst [.int e0]) hp
        have f1' : upd G p (.lst [.int (((i : Nat) : Int) - ((wsV ts).length : Nat))]) = G1 := by rw [he0]; exact f1
        rw [f1']
        refine ⟨D, p, _, _, rfl, rfl, U1 _ _ dG, C1, (by rw [List.length_map, List.length_map, hz]; show t.length + 1 ≤ _; omega), fun S zS => ?_⟩
        obtain ⟨G2, f2, U2, C2⟩ := alloc (o := .lst ((codesN t e0).map V.int)) zS
        have f2' : upd G1 S (.lst (List.map V.int (List.map (fun c : Nat => (c : Int)) t) ++ [.int e0])) = G2 := by
          rw [← f2]
          unfold codesN
          rw [List.map_append]
          rfl
        rw [f2']
        have s32 : Same H3 G2 := (sG.trans U1).trans U2
        have SB : S ≠ B := fun z => by rw [z, U1 _ _ (sG _ _ (S3 _ _ hB))] at zS; cases zS
        have dol : ("$" : Str) = strL [36] := rfl
        refine ⟨_, rfl, _, _, rfl, rfl, (by rw [strL_len, hz]; show 1 + _ ≤ _; omega), strL (36 :: t), (by rw [dol, strL_add]; rfl), for_it (walk_enumS (z := strL (36 :: t))) (fun j σ H' => ∃ v5 v6 v7 : Option V, σ = [some (.ref a), some (.ref B), some (.int (i : Nat)), some (.str (strL t)), some (.ref S), v5, v6, v7] ∧ KeepB B G2 H' ∧ ∃ ys, H' B = some (.lst ys) ∧ All2 (SufB B H') ys ((itemsTo ts i ++ (List.range j).map fun p => ((i, p) : Pt)).map (BwL.sufZ ts))) ⟨_, _, _, rfl, fun _ _ e _ => e, ys, s32 _ _ (S3 _ _ hB), (by rw [List.range_zero, List.map_nil, List.append_nil]; exact hall.mono fun _ _ _ r => r.keep (S3.trans s32))⟩ (fun _ _ _ _ _ => trivial) ?_ ?_⟩
        · rintro j y σ H4 H4' hj ⟨v5, v6, v7, rfl, kb4, ys, hB4, hall⟩ ⟨T1, c, rfl, hT1, rfl, hc⟩
          obtain ⟨H5, e5, S5, A5⟩ := alloc (o := .tup [.int (j : Nat), .str ⟨#[c]⟩]) hT1
          rw [e5]
          have hj2 : j < t.length + 1 := by rw [strL_size] at hj; exact hj
          have hc' : BwL.sg ts (i, j) = c := by
            have : (36 :: t)[j]? = some c := by rw [← strL_list (36 :: t), Array.getElem?_toList]; exact hc
            unfold BwL.sg
            rw [htx, List.getD_eq_getElem?_getD, this]
            rfl
          refine ⟨T1, _, rfl, .of A5, rfl, _, _, rfl, _, _, rfl, rfl, ?_⟩
          have hS5 : H5 S = some (.lst ((codesN t e0).map V.int)) := S5 _ _ (kb4 _ _ C2 SB)
          refine ⟨_, rfl, .inl ⟨rfl, _, .of (S5 _ _ hB4)⟩, ?_⟩
          refine ⟨_, rfl, _, rfl, _, rfl, ?_⟩
          dsimp only [tNoPart]
          refine ⟨S, _, rfl, .of hS5, fun q zq => ?_⟩
          rw [codes_drop t e0 j (by omega)]
          obtain ⟨H6, e6, S6, A6⟩ := alloc (o := .lst ((codesN (t.drop j) e0).map V.int)) zq
          rw [e6]
          refine ⟨_, rfl, (by show 2 ≤ sizeLine; decide), fun r zr => ?_⟩
          obtain ⟨H7, e7, S7, A7⟩ := alloc (o := .tup [.ref q, .str ⟨#[c]⟩]) zr
          rw [e7]
          have hB7 := S7 _ _ (S6 _ _ (S5 _ _ hB4))
          have qB : q ≠ B := fun z => by rw [z, S5 _ _ hB4] at zq; cases zq
          have ly := hall.length
          rw [List.length_map, List.length_append, List.length_map, List.length_range] at ly
          have li := itemsTo_len hg i
          have li2 : i * 311 ≤ 400 * 311 := Nat.mul_le_mul_right _ (by omega)
          refine ⟨B, _, _, rfl, rfl, hB7, (by rw [ly, hz]; omega), ?_⟩
          refine ⟨_, _, _, rfl, fun b o e n => ?_, _, upd_same, ?_⟩
          · rw [upd_ne n]
            exact S7 _ _ (S6 _ _ (S5 _ _ (kb4 _ _ e n)))
          · rw [List.range_succ, List.map_append (l₁ := List.range j), ← List.append_assoc, List.map_append (l₁ := itemsTo ts i ++ _)]
            refine All2.append (hall.mono fun _ _ _ r => (r.keep ((S5.trans S6).trans S7)).put hB7) (.cons ?_ .nil)
            refine SufB.put (xs := ys) ⟨r, q, rfl, ?_, ?_, qB⟩ hB7
            · rw [A7]
              show _ = some (HO.tup [.ref q, .str (strL [BwL.sg ts (i, j)])])
              rw [hc']
              rfl
            · show H7 q = some (.lst ((codesN ((tx ts i).drop j) (((i : Nat) : Int) - (ts.length : Int))).map V.int))
              rw [htx, ← wlen, he0]
              exact S7 _ _ A6
        · rintro σ H4 ⟨v5, v6, v7, rfl, kb4, ys, hB4, hall⟩
          rw [strL_size] at hall
          refine ⟨_, _, _, _, _, _, rfl, fun b o e n => kb4 _ _ (s32 _ _ (S3 _ _ (kb _ _ e n))) n, ys, hB4, ?_⟩
          rw [itemsTo_succ, htx]
          exact hall
    · rintro σ H2 ⟨v2, v3, v4, v5, v6, v7, rfl, kb, ys, hB, hall⟩
      rw [wlen] at hall
      exact ⟨_, rfl, k B ys H2 (fun b o e => kb _ _ (S1 _ _ e) (fun z => by rw [z, zB] at e; cases e)) hB (hall.mono fun _ _ _ r => r.at)⟩
theorem ok_TN {f : Addr} {fd : FuncData} (F : Fun K "_turns" "_turns" sTN f fd) (T : TxtP K mg) : FnOk P w K mg base CX0 1 f fd ["rings", "many"] spTN := by
  refine F.ok scTN (fun vs H Q E h => ?_) (fun cdv A outer s H vs Q E hr h => ?_)
  · obtain ⟨b, m, rfl, _⟩ := h
    rfl
  · obtain ⟨b, m, rfl, hb, k⟩ := h
    have nd := scTN.nd
    refine ⟨_, (pss_cons (ps_set (i := 2) nd rfl (Or.inl rfl) (pe_lst pa_nil))
      (pss_cons (ps_for PassesOwn.never rfl (pi_tup (pv 0)) (pg_name (i := 3) nd rfl (Or.inl rfl)) pss_never)
      (pss_one (ps_ret (pv 2))))), ?_⟩
    refine ⟨(by show 0 ≤ sizeLine; exact Nat.zero_le _), fun B zB => ?_⟩
    obtain ⟨H1, e1, S1, A1⟩ := alloc (o := .lst []) zB
    rw [e1]
    refine ⟨_, rfl, b, rfl, ⟨_, .of (S1 _ _ hb)⟩, for_tup (K := K) (a := b) (xs := []) (fun i σ H' => σ = [some (.ref b), some (.int m), some (.ref B), none, none, none, none, none] ∧ H' = H1) ⟨rfl, rfl⟩ (fun i σ H' _ ⟨_, e⟩ => by rw [e]; exact .of (S1 _ _ hb)) ?_ ?_⟩
    · intro i y σ H2 hi _
      simp at hi
    · rintro σ H2 ⟨rfl, rfl⟩
      exact ⟨_, rfl, k B H2 S1 A1⟩
theorem ok_EN {f : Addr} {fd : FuncData} (F : Fun K "_enough" "_enough" sEN f fd) (T : TxtP K mg) : FnOk P w K mg base CX0 1 f fd ["texts", "rings"] spEN := by
  refine F.ok scEN (fun vs H Q E h => ?_) (fun cdv A outer s H vs Q E hr h => ?_)
  · obtain ⟨a, b, ts, rfl, _⟩ := h
    rfl
  · obtain ⟨a, b, ts, rfl, ha, hb, hg, k⟩ := h
    have hfew := hg.few
    have nd := scEN.nd
    have hz : sizeLine = 2 ^ 24 := sizeLine_eq
    have hu : (A.deeper (PyProof.Rows.envOfC "_enough" (defScope sEN) s.heap.objs.size f cdv)).units + 64 < cLine := hr.units
    refine ⟨_, (pss_one (ps_ret (pe_callBK (cr_maxDef rfl hu) (by rfl) T.max (by decide +kernel) (pa_cons (pe_op op_cat (pe_lc (own := [("text", 2)]) (g := gName 2) (tt := tYes) rfl nd (pi_tup (pv 0)) (blkOk_by (N := ["texts", "rings", "text", "ring"]) (sc := defScope sEN) (by decide +kernel)) (fun _ _ _ _ _ => (pg_name (i := 2) nd rfl (Or.inl rfl))) (fun _ _ _ _ _ => pts_nil) (fun _ _ _ _ _ => (pe_op op_add (pe_callB call_len_str (by rfl) T.len (by decide +kernel) (pa_cons (pv 2) pa_nil)) pe_int))) (pe_lc (own := [("ring", 3)]) (g := gName 3) (tt := tYes) rfl nd (pi_tup (pv 1)) (blkOk_by (N := ["texts", "rings", "text", "ring"]) (sc := defScope sEN) (by decide +kernel)) (fun _ _ _ _ _ => (pg_name (i := 3) nd rfl (Or.inl rfl))) (fun _ _ _ _ _ => pts_nil) (fun _ _ _ _ _ => (pe_op op_mul pe_int (pe_callB call_len_str (by rfl) T.len (by decide +kernel) (pa_cons (pv 3) pa_nil)))))) pa_nil) (pk_cons pe_int pk_nil)))), ?_⟩
    refine ⟨_, rfl, a, rfl, ⟨_, .of ha⟩, fun D nD => ?_⟩
    refine lcM_tup (K := K) (a := a) (xs := wsV ts) (zs := ts) (R := fun _ x z => x = V.str (strL z) ∧ z.length ≤ 310) (R' := fun _ x z => x = V.int z) (fun _ => true) (fun z => ((z.length + 1 : Nat) : Int)) nD (.of ha) ?_ (fun _ _ _ _ _ r => r) (fun _ _ _ _ _ r => r) (by rw [hz]; omega) ?_ ?_
    · exact (All2.of_map (f := fun t : List Nat => V.str (strL t)) ts).mono fun x z hz r => ⟨r, hg.small z hz⟩
    · intro i x z G C C0 hz' s rx yes no
      obtain ⟨rfl, hl⟩ := rx
      refine ⟨rfl, ?_⟩
      refine yes_i ?_
      refine iteY rfl ?_
      refine ⟨_, rfl, strL z, rfl, (by rw [strL_len, hz]; omega), _, _, rfl, rfl, ?_⟩
      rw [strL_len]
      exact yes rfl _ _ (fun _ _ q => q) rfl
    · intro ys H2 s2 hD hall
      rw [List.filter_eq_self.mpr (fun _ _ => rfl)] at hall
      have ey := hall.eq_map
      subst ey
      refine ⟨_, rfl, b, rfl, ⟨_, .of (s2 _ _ hb)⟩, fun D2 nD2 => ?_⟩
      refine lcM_tup (K := K) (a := b) (xs := []) (zs := ([] : List Nat)) (R := fun _ _ _ => True) (R' := fun _ x z => x = V.int z) (fun _ => true) (fun z => (z : Int)) nD2 (.of (s2 _ _ hb)) .nil (fun _ _ _ _ _ r => r) (fun _ _ _ _ _ r => r) (by rw [hz]; decide) ?_ ?_
      · intro i x z G C C0 hz'
        simp at hz'
      · intro ys2 H3 s3 hD3 hall3
        cases hall3
        dsimp only [tNil]
        refine ⟨D, D2, _, _, rfl, rfl, s3 _ _ hD, hD3, (by rw [List.length_map, List.length_map, hz]; show _ + 0 ≤ 2 ^ 24; omega), fun q zq => ?_⟩
        refine ⟨q, ts.map fun z => ((z.length + 1 : Nat) : Int), 0, rfl, rfl, .of (by rw [upd_same, List.append_nil]), ?_⟩
        refine k _ _ fun c o e => ?_
        rw [upd_ne (ne_of_none (s3 _ _ (s2 _ _ e)) zq)]
        exact s3 _ _ (s2 _ _ e)
theorem ok_RW {f fSF fTN fEN : Addr} {fd fdSF fdTN fdEN : FuncData} (F : Fun K "_row" "_row" sRW f fd) (T : TxtP K mg)
    (GSF : FnOk P w K mg base CX0 1 fSF fdSF ["texts"] spSF) (gSF : mg "_suffixes" = some (.ref fSF)) (kSF : PySem.W.keepIn K (.ref fSF) = true) (bSF : Binds K fdSF ["texts"] [])
    (GTN : FnOk P w K mg base CX0 1 fTN fdTN ["rings", "many"] spTN) (gTN : mg "_turns" = some (.ref fTN)) (kTN : PySem.W.keepIn K (.ref fTN) = true) (bTN : Binds K fdTN ["rings", "many"] [])
    (GEN : FnOk P w K mg base CX0 1 fEN fdEN ["texts", "rings"] spEN) (gEN : mg "_enough" = some (.ref fEN)) (kEN : PySem.W.keepIn K (.ref fEN) = true) (bEN : Binds K fdEN ["texts", "rings"] []) :
    FnOk P w K mg base CX0 2 f fd ["texts", "rings"] spRW := by
  refine F.ok scRW (fun vs H Q E h => ?_) (fun cdv A outer s H vs Q E hr h => ?_)
  · obtain ⟨a, b, ts, l, rfl, _⟩ := h
    rfl
  · obtain ⟨a, b, ts, l, rfl, ha, hb, hl, ho, k⟩ := h
    have rsm := row_small hl ho
    have nd := scRW.nd
    have hz : sizeLine = 2 ^ 24 := sizeLine_eq
    have hu : (A.deeper (PyProof.Rows.envOfC "_row" (defScope sRW) s.heap.objs.size f cdv)).units + 64 < cLine := hr.units
    have hrSF : Room 1 _ := hr
    have hrTN : Room 1 _ := hr
    have hrEN : Room 1 _ := hr
    refine ⟨_, (pss_cons (ps_set (i := 2) nd rfl (Or.inl rfl) (pe_op op_cat (pe_call GSF hrSF rfl gSF kSF bSF .nil pass0 (pa_cons (pv 0) pa_nil)) (pe_call GTN hrTN rfl gTN kTN bTN .nil pass0 (pa_cons (pv 1) (pa_cons (pe_call GEN hrEN rfl gEN kEN bEN .nil pass0 (pa_cons (pv 0) (pa_cons (pv 1) pa_nil))) pa_nil)))))
      (pss_one (ps_ret (pe_join pe_str (pe_lc (own := [("signs", 3), ("ahead", 4)]) (g := gTup _ 2 (gCons (gName 3) (gCons (gName 4) gNil))) (tt := tYes) rfl nd (pi_list (pe_callB (cr_sortedD hu) (by rfl) T.sorted (by decide +kernel) (pa_cons (pv 2) pa_nil))) (blkOk_by (N := ["texts", "rings", "marked", "signs", "ahead"]) (sc := defScope sRW) (by decide +kernel)) (fun _ _ _ _ _ => (pg_tup rfl (pgs_cons (pg_name (i := 3) nd rfl (Or.inl rfl)) (pgs_cons (pg_name (i := 4) nd rfl (Or.inl rfl)) pgs_nil)))) (fun _ _ _ _ _ => pts_nil) (fun _ _ _ _ _ => (pv 4))))))), ?_⟩
    refine ⟨_, rfl, a, ts, rfl, ha, hl, fun q1 ys1 H1 s1 hq1 hall => ?_⟩
    refine ⟨_, rfl, _, rfl, _, rfl, a, b, ts, rfl, s1 _ _ ha, s1 _ _ hb, hl, fun m H2 s2 => ?_⟩
    refine ⟨b, m, rfl, s2 _ _ (s1 _ _ hb), fun q3 H3 s3 hq3 => ?_⟩
    have ly := hall.length
    rw [List.length_map, (items_perm ho).length_eq] at ly
    refine ⟨q1, q3, ys1, [], rfl, rfl, s3 _ _ (s2 _ _ hq1), hq3, (by rw [ly, hz]; show _ + 0 ≤ _; omega), fun p4 z4 => ?_⟩
    rw [List.append_nil]
    obtain ⟨H4, e4, S4, A4⟩ := alloc (o := .lst ys1) z4
    rw [e4]
    have s14 : Same H1 H4 := (s2.trans s3).trans S4
    refine ⟨⟨_, rfl⟩, _, rfl, ?_⟩
    dsimp only [tNil]
    refine sortedG_ok (K := K) Bwt.kX Bwt.kX_inj (R := SufAt H4) A4 (hall.mono fun _ _ _ r => r.keep s14) (fun x z ⟨a, c, e, h1, h2⟩ => by rw [e]; exact .tup (.of h1) (.cons (dp_lI (.of h2)) (.cons (.str _) .nil))) (fun x y => ?_) (.inl fun d hd => ?_) (fun z => by simp [Bwt.kX, PyData.depth, PyData.depthAll, PySem.W.ke_depthAll]) fun p5 zs z5 hall5 => ?_
    · simp only [Bwt.kX, PySem.W.alike, PySem.W.alikeAll, alike_ints, Bool.and_self]
    · obtain ⟨z, _, rfl⟩ := List.mem_map.mp hd
      exact ⟨_, _, rfl⟩
    rw [BwL.sort_suf ho] at hall5
    obtain ⟨H5, e5, S5, A5⟩ := alloc (o := .lst zs) z5
    rw [e5]
    refine ⟨p5, rfl, ⟨_, .of A5⟩, fun D2 nD2 => ?_⟩
    refine lcM_list (K := K) (a := p5) (xs := zs) (zs := l.map (BwL.sufZ ts)) (R := SufAt) (R' := fun _ x z => x = V.str (strL [z])) (fun _ => true) (fun z => z.2) nD2 (.of A5) (hall5.mono fun _ _ _ r => r.keep S5) (fun _ _ _ _ s r => r.keep s) (fun _ _ _ _ _ r => r) (by rw [List.length_map, hz]; omega) ?_ ?_
    · intro i x z G C C0 hz' s rx yes no
      obtain ⟨a1, b1, rfl, h1, h2⟩ := rx
      refine ⟨a1, _, rfl, .of h1, rfl, _, _, rfl, _, _, rfl, rfl, ?_⟩
      refine ⟨rfl, ?_⟩
      refine yes_i ?_
      refine iteY rfl ?_
      refine ⟨_, rfl, ?_⟩
      exact yes rfl _ _ (fun _ _ q => q) rfl
    · intro ys2 H6 s6 hD6 hall6
      have e := hall6.eq_map
      rw [List.filter_eq_self.mpr (fun _ _ => rfl)] at e
      have hrow : (l.map (BwL.sufZ ts)).map (fun z : List Int × Nat => z.2) = BwL.rowL ts l := by rw [List.map_map]; rfl
      rw [hrow] at e
      have e2 : ys2 = (((BwL.rowL ts l).map fun c => [c]).map strL).map V.str := by rw [e, List.map_map, List.map_map]; rfl
      rw [e2] at hD6
      refine ⟨"", D2, _, rfl, rfl, .inl (.of hD6), ?_, ?_⟩
      · rw [sum_lenV, ones_flat, BwL.row_len]
        show l.length + _ * 0 ≤ _
        omega
      · rw [joinV, ones_flat]
        exact k H6 (((s1.trans s14).trans S5).trans s6)
theorem ok_RO {f fCT fRW : Addr} {fd fdCT fdRW : FuncData} (F : Fun K "row_of" "row_of" sRO f fd)
    (GCT : FnOk P w K mg base CX0 2 fCT fdCT ["text"] spCT) (gCT : mg "check_text" = some (.ref fCT)) (kCT : PySem.W.keepIn K (.ref fCT) = true) (bCT : Binds K fdCT ["text"] [])
    (GRW : FnOk P w K mg base CX0 2 fRW fdRW ["texts", "rings"] spRW) (gRW : mg "_row" = some (.ref fRW)) (kRW : PySem.W.keepIn K (.ref fRW) = true) (bRW : Binds K fdRW ["texts", "rings"] []) :
    FnOk P w K mg base CX0 3 f fd ["text"] spRO := by
  refine F.ok scRO (fun vs H Q E h => ?_) (fun cdv A outer s H vs Q E hr h => ?_)
  · obtain ⟨t, l, rfl, _⟩ := h
    rfl
  · obtain ⟨t, l, rfl, hl, hb, ho, k⟩ := h
    have nd := scRO.nd
    have hrCT : Room 2 _ := hr
    have hrRW : Room 2 _ := hr
    refine ⟨_, (pss_cons (ps_expr (pe_call GCT hrCT rfl gCT kCT bCT .nil pass0 (pa_cons (pv 0) pa_nil)))
      (pss_one (ps_ret (pe_call GRW hrRW rfl gRW kRW bRW .nil pass0 (pa_cons (pe_tup (pa_cons (pv 0) pa_nil)) (pa_cons (pe_tup pa_nil) pa_nil)))))), ?_⟩
    refine ⟨_, rfl, t, rfl, hl, hb, fun H1 s1 => ?_⟩
    refine ⟨_, rfl, (by show 1 ≤ sizeLine; decide), fun p zp => ?_⟩
    obtain ⟨H2, e2, S2, A2⟩ := alloc (o := .tup [.str (strL t)]) zp
    rw [e2]
    refine ⟨(by show 0 ≤ sizeLine; decide), fun q zq => ?_⟩
    obtain ⟨H3, e3, S3, A3⟩ := alloc (o := .tup []) zq
    rw [e3]
    exact ⟨p, q, [t], l, rfl, S3 _ _ A2, A3, good1 hl hb, ho, fun H4 s4 => k H4 (((s1.trans S2).trans S3).trans s4)⟩
theorem ok_RL {f fCTS fRW : Addr} {fd fdCTS fdRW : FuncData} (F : Fun K "row_of_list" "row_of_list" sRL f fd)
    (GCTS : FnOk P w K mg base CX0 3 fCTS fdCTS ["texts"] spCTS) (gCTS : mg "check_texts" = some (.ref fCTS)) (kCTS : PySem.W.keepIn K (.ref fCTS) = true) (bCTS : Binds K fdCTS ["texts"] [])
    (GRW : FnOk P w K mg base CX0 2 fRW fdRW ["texts", "rings"] spRW) (gRW : mg "_row" = some (.ref fRW)) (kRW : PySem.W.keepIn K (.ref fRW) = true) (bRW : Binds K fdRW ["texts", "rings"] []) :
    FnOk P w K mg base CX0 4 f fd ["texts"] spRL := by
  refine F.ok scRL (fun vs H Q E h => ?_) (fun cdv A outer s H vs Q E hr h => ?_)
  · obtain ⟨a, ts, l, rfl, _⟩ := h
    rfl
  · obtain ⟨a, ts, l, rfl, ha, hl, ho, k⟩ := h
    have nd := scRL.nd
    have hrCTS : Room 3 _ := hr
    have hrRW : Room 2 _ := hr.mono (by decide)
    refine ⟨_, (pss_cons (ps_expr (pe_call GCTS hrCTS rfl gCTS kCTS bCTS .nil pass0 (pa_cons (pv 0) pa_nil)))
      (pss_one (ps_ret (pe_call GRW hrRW rfl gRW kRW bRW .nil pass0 (pa_cons (pv 0) (pa_cons (pe_tup pa_nil) pa_nil)))))), ?_⟩
    refine ⟨_, rfl, a, ts, rfl, ha, hl, fun H1 s1 => ?_⟩
    refine ⟨_, rfl, (by show 0 ≤ sizeLine; decide), fun q zq => ?_⟩
    obtain ⟨H3, e3, S3, A3⟩ := alloc (o := .tup []) zq
    rw [e3]
    exact ⟨a, q, ts, l, rfl, S3 _ _ (s1 _ _ ha), A3, hl, ho, fun H4 s4 => k H4 ((s1.trans S3).trans s4)⟩
end
end T12

set_option Elab.async false
set_option linter.all false
set_option maxRecDepth 100000
set_option maxHeartbeats 4000000
/-! LynTurn: the turns of a word, the least of them. -/
namespace Lyn
def rot (w : List Nat) (k : Nat) : List Nat := w.drop k ++ w.take k
def rotg (w : List Nat) (k : Nat) : List Nat := (List.range w.length).map fun i => w.getD ((i + k) % w.length) 0
theorem rotg_len (w : List Nat) (k : Nat) : (rotg w k).length = w.length := by simp [rotg]
theorem rotg_at {w : List Nat} {k i : Nat} (h : i < w.length) : (rotg w k).getD i 0 = w.getD ((i + k) % w.length) 0 := by
  unfold rotg
  rw [List.getD_eq_getElem?_getD, List.getElem?_map, List.getElem?_range h]
  rfl
theorem rot_rotg {w : List Nat} {k : Nat} (h : k ≤ w.length) : rot w k = rotg w k := by
  apply List.ext_getElem?
  intro i
  unfold rot rotg
  by_cases hi : i < w.length
  · rw [List.getElem?_map, List.getElem?_range hi, List.getElem?_append, List.length_drop]
    by_cases h1 : i < w.length - k
    · rw [if_pos h1, List.getElem?_drop, Nat.add_comm k i, List.getElem?_eq_getElem (by omega)]
      show _ = some (w.getD ((i + k) % w.length) 0)
      rw [Nat.mod_eq_of_lt (by omega), List.getD_eq_getElem?_getD, List.getElem?_eq_getElem (by omega)]
      rfl
    · rw [if_neg h1, List.getElem?_take, if_pos (by omega)]
      have e : (i + k) % w.length = i - (w.length - k) := by
        rw [Nat.mod_eq_sub_mod (by omega), Nat.mod_eq_of_lt (by omega)]
        omega
      rw [List.getElem?_eq_getElem (by omega)]
      show _ = some (w.getD ((i + k) % w.length) 0)
      rw [e, List.getD_eq_getElem?_getD, List.getElem?_eq_getElem (by omega)]
      rfl
  · rw [List.getElem?_eq_none (by rw [List.length_append, List.length_drop, List.length_take]; omega), List.getElem?_eq_none (by rw [List.length_map, List.length_range]; omega)]
theorem rotg_rotg (w : List Nat) (j k : Nat) : rotg (rotg w j) k = rotg w (j + k) := by
  by_cases h0 : w.length = 0
  · have : w = [] := List.length_eq_zero_iff.mp h0
    subst this
    rfl
  · apply List.ext_getElem?
    intro i
    have hl : (rotg w j).length = w.length := rotg_len w j
    by_cases hi : i < w.length
    · conv => lhs; unfold rotg
      conv => rhs; unfold rotg
      rw [List.getElem?_map, List.getElem?_map, List.getElem?_range hi]
      rw [show (List.map (fun i => w.getD ((i + j) % w.length) 0) (List.range w.length)).length = w.length by simp, List.getElem?_range hi]
      show some ((rotg w j).getD ((i + k) % w.length) 0) = some (w.getD ((i + (j + k)) % w.length) 0)
      rw [rotg_at (Nat.mod_lt _ (by omega)), Nat.mod_add_mod]
      congr 3
      omega
    · rw [List.getElem?_eq_none (by rw [rotg_len, rotg_len]; omega), List.getElem?_eq_none (by rw [rotg_len]; omega)]
theorem rotg_mod (w : List Nat) (k : Nat) : rotg w (k % w.length) = rotg w k := by
  unfold rotg
  refine List.map_congr_left fun i _ => ?_
  rw [Nat.add_mod_mod]
theorem rotg_zero (w : List Nat) : rotg w 0 = w := by
  rw [← rot_rotg (Nat.zero_le _)]
  simp [rot]
theorem rotg_full (w : List Nat) : rotg w w.length = w := by
  rw [← rot_rotg (Nat.le_refl _)]
  simp [rot]
def turns (w : List Nat) : List (List Nat) := (List.range w.length).map (rot w)
theorem turns_mem {w x : List Nat} : x ∈ turns w ↔ ∃ k, k < w.length ∧ x = rotg w k := by
  unfold turns
  rw [List.mem_map]
  constructor
  · rintro ⟨k, hk, rfl⟩
    have hk := List.mem_range.mp hk
    exact ⟨k, hk, rot_rotg (by omega)⟩
  · rintro ⟨k, hk, rfl⟩
    exact ⟨k, List.mem_range.mpr hk, rot_rotg (by omega)⟩
theorem count_two {w : List Nat} {k : Nat} (h0 : 0 < k) (hk : k < w.length) (e : rotg w k = w) : (turns w).count w ≠ 1 := by
  obtain ⟨n, hn⟩ : ∃ n, w.length = n + 1 := ⟨w.length - 1, by omega⟩
  unfold turns
  rw [hn, List.range_succ_eq_map, List.map_cons, List.map_map, List.count_cons]
  have e0 : rot w 0 = w := by simp [rot]
  rw [e0]
  have : 0 < List.count w (List.map (rot w ∘ Nat.succ) (List.range n)) := by
    rw [List.count_pos_iff, List.mem_map]
    exact ⟨k - 1, List.mem_range.mpr (by omega), by
      show rot w (k - 1 + 1) = w
      rw [show k - 1 + 1 = k by omega, rot_rotg (by omega), e]⟩
  simp
  omega
/-- the least turn of a word that is no power -/
theorem least_R {w m : List Nat} (hw : w ≠ []) (hc : (turns w).count w = 1) (hm : m ∈ turns w) (hle : ∀ x ∈ turns w, ¬ x < m) : R m := by
  obtain ⟨j, hj, rfl⟩ := turns_mem.mp hm
  have hl := rotg_len w j
  refine ⟨fun z => ?_, fun k h0 hk => ?_⟩
  · rw [z] at hl
    simp at hl
    omega
  · rw [hl] at hk
    have e : (rotg w j).drop k ++ (rotg w j).take k = rotg (rotg w j) k := rot_rotg (by omega)
    rw [e]
    have e2 := rotg_rotg w j k
    have hin : rotg (rotg w j) k ∈ turns w := turns_mem.mpr ⟨(j + k) % w.length, Nat.mod_lt _ (by omega), by rw [rotg_mod, e2]⟩
    rcases trich (rotg w j) (rotg (rotg w j) k) with z | z | z
    · exact z
    · exfalso
      refine count_two h0 hk ?_ hc
      have hback : rotg (rotg w j) (w.length - j) = w := by
        rw [rotg_rotg, show j + (w.length - j) = w.length by omega, rotg_full]
      have : rotg (rotg (rotg w j) k) (w.length - j) = rotg w k := by
        rw [rotg_rotg, rotg_rotg, show j + (k + (w.length - j)) = k + w.length by omega, ← rotg_mod w (k + w.length), Nat.add_mod_right, rotg_mod]
      rw [← this, ← z, hback]
    · exact absurd z (hle _ hin)
def minL (x : List Nat) (xs : List (List Nat)) : List Nat := xs.foldl (fun a y => if y < a then y else a) x
theorem minL_ok : ∀ (xs : List (List Nat)) (x : List Nat), minL x xs ∈ x :: xs ∧ ∀ y ∈ x :: xs, ¬ y < minL x xs
  | [], x => ⟨List.mem_cons_self, fun y hy => by rw [List.mem_singleton.mp hy]; exact List.lt_irrefl x⟩
  | z :: xs, x => by
    show minL (if z < x then z else x) xs ∈ _ ∧ _
    show _ ∧ ∀ y ∈ x :: z :: xs, ¬ y < minL (if z < x then z else x) xs
    obtain ⟨h1, h2⟩ := minL_ok xs (if z < x then z else x)
    have hb := h2 _ List.mem_cons_self
    constructor
    · rcases List.mem_cons.mp h1 with e | e
      · rw [e]
        split
        · exact List.mem_cons_of_mem _ List.mem_cons_self
        · exact List.mem_cons_self
      · exact List.mem_cons_of_mem _ (List.mem_cons_of_mem _ e)
    · intro y hy hlt
      rcases List.mem_cons.mp hy with rfl | hy
      · by_cases hz : z < y
        · rw [if_pos hz] at hb hlt
          exact hb (List.lt_trans hz hlt)
        · rw [if_neg hz] at hb hlt
          exact hb hlt
      · rcases List.mem_cons.mp hy with rfl | hy
        · by_cases hz : y < x
          · rw [if_pos hz] at hb hlt
            exact hb hlt
          · rw [if_neg hz] at hb hlt
            rcases trich x y with t | t | t
            · exact hb (List.lt_trans t hlt)
            · rw [t] at hb
              rw [t] at hlt
              exact hb hlt
            · exact hz t
        · exact h2 y (List.mem_cons_of_mem _ hy) hlt
/-- sorted, then turned about: none less than the next -/
theorem ch_of : ∀ {ws : List (List Nat)}, ws.Pairwise (fun a b => ¬ a < b) → Ch ws
  | [], _ => True.intro
  | [_], _ => True.intro
  | a :: b :: r, h => by
    cases h with
    | cons h1 h2 => exact ⟨h1 b List.mem_cons_self, ch_of h2⟩
theorem Ch.at : ∀ {ws : List (List Nat)}, Ch ws → ∀ (i : Nat) (a b : List Nat), ws[i]? = some a → ws[i + 1]? = some b → ¬ a < b
  | [], _, i, a, b, h, _ => by simp at h
  | [_], _, i, a, b, _, h => by simp at h
  | x :: y :: r, hc, 0, a, b, h1, h2 => by
    cases h1
    cases h2
    exact hc.1
  | x :: y :: r, hc, i + 1, a, b, h1, h2 => hc.2.at i a b (by simpa using h1) (by simpa using h2)
end Lyn

set_option Elab.async false
set_option linter.all false
set_option maxRecDepth 100000
set_option maxHeartbeats 4000000
/-! StrMin: min, count of texts by the lists of their codes. -/
namespace L2
open PySem PySem.Spec PyProof.Rows
theorem minS_L (x : List Nat) : ∀ xs : List (List Nat), minS (strL x) (xs.map strL) = strL (Lyn.minL x xs) := by
  intro xs
  induction xs generalizing x with
  | nil => rfl
  | cons y ys ih =>
    show minS (if decide ((strL y).cps.toList < (strL x).cps.toList) = true then strL y else strL x) (ys.map strL) = strL (Lyn.minL (if y < x then y else x) ys)
    rw [strL_list, strL_list]
    by_cases h : y < x
    · rw [if_pos (decide_eq_true h), if_pos h, ih]
    · rw [if_neg (by simpa using h), if_neg h, ih]
theorem count_L (w : List Nat) : ∀ xs : List (List Nat), (xs.map strL).count (strL w) = xs.count w
  | [] => rfl
  | x :: xs => by
    rw [List.map_cons, List.count_cons, List.count_cons, count_L w xs]
    congr 1
    by_cases h : x = w
    · simp [h]
    · have : strL x ≠ strL w := fun z => h (strL_inj.mp z)
      simp [h, this]
/-- how often a sign stands in a text -/
theorem count_sgn (l : List Nat) (c : Nat) : Txt.count (strL l) ⟨#[c]⟩ = ((l.count c : Nat) : Int) := by
  rw [count_is, strL_list]
  have e : (l.map fun n => PyData.str ⟨#[n]⟩) = ((l.map fun n => [n]).map strL).map PyData.str := by
    rw [List.map_map, List.map_map]
    rfl
  rw [e, show (⟨#[c]⟩ : Str) = strL [c] from rfl, countIn_strs, count_L]
  congr 1
  induction l with
  | nil => rfl
  | cons x l ih =>
    rw [List.map_cons, List.count_cons, List.count_cons]
    rw [ih (by rw [List.map_map, List.map_map]; rfl)]
    congr 1
    by_cases h : x = c <;> simp [h]
end L2

set_option Elab.async false
set_option linter.all false
set_option maxRecDepth 100000
set_option maxHeartbeats 4000000
/-! ListStr: list(text). -/
namespace L2
open PySem PySem.Spec PyProof.Rows
section
variable {X : Cx}
def rListS : List V → Hp → VK → Prop := fun xs H Q => ∃ z : Str, xs = [.str z] ∧ z.cps.size ≤ 1000 ∧ ∀ p, H p = none → Q (.ref p) (upd H p (.lst (z.cps.toList.map fun c => V.str ⟨#[c]⟩)))
theorem call_listS (hc : X.calm = true) : CallR X (.type "list") rListS := by
  intro pins s σ H xs us Q I r h
  obtain ⟨z, rfl, hz, q⟩ := h
  obtain ⟨u, rfl, ru⟩ := vals1 r
  obtain ⟨t, rfl⟩ := ru
  have hsz : sizeLine = 2 ^ 24 := sizeLine_eq
  refine call_list_str (I.ok.hd hc) z t (fun h' tk acc c' hk hS hi => ?_) (by omega)
  refine ⟨.ref s.heap.objs.size, _, I.laid (t' := tk) (a := s.heap.objs.size) (o := .lst (z.cps.toList.map fun c => V.str ⟨#[c]⟩)) hk (Nat.le_refl _) ⟨by rw [List.length_map, Array.length_toList]; omega, acc.toList, c', vals_at (by rw [Array.length_toList, hi.1, List.length_map, Array.length_toList]) fun i u hu => ?_, by rw [Array.toArray_toList]; exact hS⟩, rfl, q _ (I.hok.fresh (Nat.le_refl _))⟩
  obtain ⟨c, v, e1, e2⟩ := hi.2 i u (by rw [← Array.getElem?_toList]; exact hu)
  exact ⟨.str ⟨#[c]⟩, by rw [List.getElem?_map, Array.getElem?_toList, e1]; rfl, ⟨v, e2⟩⟩
end
end L2

set_option Elab.async false
set_option linter.all false
set_option maxRecDepth 100000
set_option maxHeartbeats 4000000
/-! SortSgn: sorted(text); sorted(texts), of any length. -/
namespace L2
open PySem PySem.Spec PyProof.Rows
def sgn (z : Str) : List Str := z.cps.toList.map fun c => ⟨#[c]⟩
section
variable {prog : Program} {w : World} {A : Around} {E : Value → Shared → Prop} {s : Shared}
theorem strs_of : ∀ {vs : List Value} {ys : List Str}, vs.length = ys.length → (∀ (j : Nat) v, vs[j]? = some v → ∃ y u, ys[j]? = some y ∧ v = .str y u) → StrsAre vs ys
  | [], [], _, _ => .nil
  | [], _ :: _, h, _ => by cases h
  | _ :: _, [], h, _ => by cases h
  | v :: vs, y :: ys, h, k => by
    obtain ⟨y', u, e, rfl⟩ := k 0 v rfl
    obtain rfl : y = y' := Option.some.inj e
    exact .cons _ _ (strs_of (Nat.succ.inj h) fun j v hv => k (j + 1) v hv)
theorem sgn_are {x : Str} {acc : Array Value} (hi : ItemsOf (SignAt x) acc x.cps.size) : StrsAre acc.toList (sgn x) := by
  refine strs_of ?_ fun j v hv => ?_
  · rw [sgn, List.length_map, Array.length_toList, Array.length_toList]
    exact hi.1
  · rw [Array.getElem?_toList] at hv
    obtain ⟨c, u, e, rfl⟩ := hi.2 j v hv
    exact ⟨_, u, by rw [sgn, List.getElem?_map, Array.getElem?_toList, e]; rfl, rfl⟩
theorem sorted_text {x : Str} {t : Tok} {R : Value → Shared → Prop} (hh : A.handled = none) (sz : x.cps.size ≤ 1000)
    (k : ∀ (h h' : Heap) (tk : Nat) (p : Addr) (out : List Value) (n : Nat) (ss : List Str), (∀ b o, s.heap.get? b = some o → h.get? b = some o) → (∀ b o, h.get? b = some o → h'.get? b = some o) → h.objs.size ≤ p → h'.get? p = some (seqObj "list" out.toArray n) → StrsAre out ss → ss.Perm (sgn x) → sortedS ss = true → R (.ref p) { s with heap := h', toks := tk }) :
    wpAny (model prog w) A (call (.builtin "sorted") [.str x t]) R E s := by
  have hsz : sizeLine = 2 ^ 24 := sizeLine_eq
  refine Calls.call_function_entry PyProof.Rows.kind_sorted PyProof.Rows.plain_sorted PyProof.Rows.entry_sorted (PyProof.Rows.args_sorted1 _) ?_
  unfold Builtin.«sorted»
  refine wpAny_bind (m := checkCount "sorted" 1 1 _) (wpAny_pure ?_)
  refine wpAny_bind (wpAny_collect_str (by simp [hh]) x t (fun s' acc kp g1 d1 o1 hi => ?_) (by omega))
  have hl : acc.toList.length = x.cps.size := by rw [Array.length_toList]; exact hi.1
  have hlz : acc.toList.length ≤ sizeLine := by omega
  have hS : StrsAre acc.toList (sgn x) := sgn_are hi
  refine wpAny_bind (wpAny_newList ?_ hlz)
  obtain ⟨h, g, dr, tk, os⟩ := s'
  subst g1 d1 o1
  have hoL : (h.push (seqObj "list" acc.toList.toArray 0)).get? h.objs.size = some (seqObj "list" acc.toList.toArray 0) := Heap.get?_push_size _ rfl
  have kp' : ∀ b o, s.heap.get? b = some o → h.get? b = some o := kp
  show wpAny _ _ _ _ _ { heap := h.push (seqObj "list" acc.toList.toArray 0), gens := s.gens, drawn := s.drawn, toks := tk, os := s.os }
  refine wpAny_bind (wpAny_holding (wpAny_call_entry slot_list_sort ⟨_, hoL, rfl⟩ entry_list_sort (list_sort_treeKAny strKind_oneLt hoL hS.keysOf (fun v₁ v₂ rest e => keyKind_strs (by rw [← e]; exact hS)) hlz fun st' a1 a2 => ⟨_, rfl, ?_⟩) (args_list_sort _)))
  obtain ⟨ss', h1, h2, h3⟩ := sorted_out_str hS a1 a2
  obtain ⟨ep, gp⟩ := PyProof.Rows.sortedHeap_at (vs := acc.toList) (out := (arrOf st').map (·.2)) hoL
  refine wpAny_pure ⟨_, rfl, k h _ tk h.objs.size _ ep ss' kp' (fun b o e => ?_) (Nat.le_refl _) gp h1 h2 h3⟩
  have lt := Heap.lt_size e
  rw [PyProof.Rows.sortedHeap_old (Nat.ne_of_lt lt) (by rw [Heap.size_push]; exact Nat.lt_succ_of_lt lt)]
  exact Heap.get?_push_of_some _ e
end
section
variable {X : Cx}
def rSortedStr : List V → Hp → VK → Prop := fun vs H Q => ∃ z : Str, vs = [V.str z] ∧ z.cps.size ≤ 1000 ∧ ∀ (ys : List Str) (p : Addr), ys.Perm (sgn z) → sortedS ys = true → H p = none → Q (.ref p) (upd H p (.lst (ys.map V.str)))
theorem cr_sortedStr (hc : X.calm = true) : CallR X (.builtin "sorted") rSortedStr := by
  intro pins s σ H vs us Q I r h
  obtain ⟨z, rfl, hz, q⟩ := h
  obtain ⟨u, rfl, ru⟩ := vals1 r
  obtain ⟨t, rfl⟩ := ru
  have hsz : sizeLine = 2 ^ 24 := sizeLine_eq
  refine sorted_text (I.ok.hd hc) hz fun h h' tk p out n ss kp0 kp le gp h1 h2 h3 => ?_
  have hlen : (ss.map V.str).length ≤ sizeLine := by
    rw [List.length_map, h2.length_eq, sgn, List.length_map, Array.length_toList]
    omega
  have J : Inv X pins σ H { s with heap := h } := I.kept kp0
  exact ⟨.ref p, upd H p (.lst (ss.map V.str)), J.laid (t' := tk) kp le ⟨hlen, out, n, vals_of_strs h1, gp⟩, rfl, q ss p h2 h3 (J.hok.fresh le)⟩
/-- sorted(texts), of any length -/
def rSortedSA (K : PySem.W.Frag) : List V → Hp → VK → Prop := fun vs H Q => ∃ (a : Addr) (xs : List Str), vs = [V.ref a] ∧ SqL K H a (xs.map V.str) ∧
  ∀ (ys : List Str) (p : Addr), ys.Perm xs → sortedS ys = true → H p = none → Q (.ref p) (upd H p (.lst (ys.map V.str)))
theorem cr_sortedSA : CallR X (.builtin "sorted") (rSortedSA X.K) := by
  intro pins s σ H vs us Q I r h
  obtain ⟨a, xs, rfl, hs, q⟩ := h
  obtain ⟨its, rv, hl, hz⟩ := I.list hs
  rw [Vals.ref1 r]
  refine PyProof.Rows.sorted_strsAny hl.isList rv.strs (by rw [← rv.length]; exact hz) fun out ys h1 h2 h3 => ?_
  obtain ⟨ep, he'⟩ := PyProof.Rows.sortedAll_at s.heap its out
  have hlen : (ys.map V.str).length ≤ sizeLine := by rw [List.length_map, h2.length_eq]; rw [List.length_map] at hz; exact hz
  exact ⟨.ref _, upd H (s.heap.objs.size + 1) (.lst (ys.map V.str)), I.laid (t' := s.toks) (fun _ _ => PyProof.Rows.sortedAll_old) (Nat.le_succ _) ⟨hlen, out.toList, ep, vals_of_strs h1, he'⟩, rfl, q ys _ h2 h3 (I.hok.fresh (Nat.le_succ _))⟩
end
end L2

set_option Elab.async false
set_option linter.all false
set_option maxRecDepth 100000
set_option maxHeartbeats 4000000
/-! WordMath: all words of given counts, one letter after another; signs sorted. -/
namespace WdM
open PySem PySem.Spec PyProof.Rows L2
def grow (ks : List Nat) (n : Nat → Nat) (ws : List (List Nat)) : List (List Nat) := ws.flatMap fun w => (ks.filter fun c => decide (w.count c < n c)).map fun c => w ++ [c]
def wordsN (ks : List Nat) (n : Nat → Nat) : Nat → List (List Nat)
  | 0 => [[]]
  | k + 1 => grow ks n (wordsN ks n k)
structure Ws (ks : List Nat) (n : Nat → Nat) (k : Nat) (ws : List (List Nat)) : Prop where
  nd : ws.Nodup
  len : ∀ w ∈ ws, w.length = k
  let1 : ∀ w ∈ ws, ∀ c ∈ w, c ∈ ks
  cnt : ∀ w ∈ ws, ∀ c, w.count c ≤ n c
  few : ws.length ≤ ks.length ^ k
theorem grow_len (ks : List Nat) (n : Nat → Nat) : ∀ ws : List (List Nat), (grow ks n ws).length ≤ ws.length * ks.length
  | [] => by simp [grow]
  | w :: ws => by
    have ih := grow_len ks n ws
    have e : grow ks n (w :: ws) = (ks.filter fun c => decide (w.count c < n c)).map (fun c => w ++ [c]) ++ grow ks n ws := rfl
    rw [e, List.length_append, List.length_map, List.length_cons, Nat.add_mul, Nat.one_mul]
    have := List.length_filter_le (fun c => decide (w.count c < n c)) ks
    omega
theorem words_ok (ks : List Nat) (n : Nat → Nat) (nd : ks.Nodup) : ∀ k, Ws ks n k (wordsN ks n k)
  | 0 => by
    refine ⟨List.pairwise_singleton _ _, fun w hw => ?_, fun w hw c hc => ?_, fun w hw c => ?_, ?_⟩
    · have e : w = [] := List.mem_singleton.mp hw
      rw [e]
      rfl
    · have e : w = [] := List.mem_singleton.mp hw
      rw [e] at hc
      cases hc
    · have e : w = [] := List.mem_singleton.mp hw
      rw [e]
      exact Nat.zero_le _
    · show 1 ≤ ks.length ^ 0
      rw [Nat.pow_zero]
      exact Nat.le_refl _
  | k + 1 => by
    have ih := words_ok ks n nd k
    have mem : ∀ {w}, w ∈ wordsN ks n (k + 1) → ∃ v ∈ wordsN ks n k, ∃ c ∈ ks, v.count c < n c ∧ w = v ++ [c] := fun {w} hw => by
      obtain ⟨v, hv, h⟩ := List.mem_flatMap.mp hw
      obtain ⟨c, hc, rfl⟩ := List.mem_map.mp h
      obtain ⟨c1, c2⟩ := List.mem_filter.mp hc
      exact ⟨v, hv, c, c1, of_decide_eq_true c2, rfl⟩
    refine ⟨?_, fun w hw => ?_, fun w hw c hc => ?_, fun w hw c => ?_, ?_⟩
    · refine List.pairwise_flatMap.mpr ⟨fun v _ => ?_, ?_⟩
      · refine List.pairwise_map.mpr (List.Pairwise.imp (fun {a b} ne e => ne ?_) (nd.sublist List.filter_sublist))
        have := List.append_cancel_left e
        injection this
      · refine ih.nd.imp fun {a b} ne x hx y hy e => ?_
        obtain ⟨c, _, rfl⟩ := List.mem_map.mp hx
        obtain ⟨d, _, rfl⟩ := List.mem_map.mp hy
        exact ne (List.append_inj_left' e rfl)
    · obtain ⟨v, hv, c, _, _, rfl⟩ := mem hw
      rw [List.length_append, ih.len v hv]
      rfl
    · obtain ⟨v, hv, d, hd, _, rfl⟩ := mem hw
      rcases List.mem_append.mp hc with hc | hc
      · exact ih.let1 v hv c hc
      · rw [List.mem_singleton.mp hc]
        exact hd
    · obtain ⟨v, hv, d, hd, hlt, rfl⟩ := mem hw
      rw [List.count_append, List.count_singleton]
      by_cases e : d = c
      · subst e
        rw [if_pos (by simp)]
        omega
      · rw [if_neg (by simpa using e)]
        exact ih.cnt v hv c
    · have := grow_len ks n (wordsN ks n k)
      have e : ks.length ^ (k + 1) = ks.length ^ k * ks.length := Nat.pow_succ _ _
      rw [e]
      exact Nat.le_trans this (Nat.mul_le_mul_right _ ih.few)
theorem sum_count (ks : List Nat) (nd : ks.Nodup) : ∀ w : List Nat, (∀ c ∈ w, c ∈ ks) → (ks.map fun c => w.count c).sum = w.length
  | [], _ => by
    induction ks with
    | nil => rfl
    | cons a r ih =>
      show 0 + (r.map fun c => ([] : List Nat).count c).sum = 0
      rw [ih (List.nodup_cons.mp nd).2 fun c hc => by cases hc]
      rfl
  | x :: w, h => by
    have ih := sum_count ks nd w fun c hc => h c (List.mem_cons_of_mem _ hc)
    have hx := h x List.mem_cons_self
    have gen : ∀ r : List Nat, r.Nodup → (r.map fun c => (x :: w).count c).sum = (r.map fun c => w.count c).sum + (if x ∈ r then 1 else 0) := by
      intro r
      induction r with
      | nil => intro _; rfl
      | cons a r ihr =>
        intro ndr
        obtain ⟨n1, n2⟩ := List.nodup_cons.mp ndr
        have e := ihr n2
        rw [List.map_cons, List.map_cons, List.sum_cons, List.sum_cons, e, List.count_cons]
        by_cases xa : x = a
        · subst xa
          rw [if_pos (by simp), if_neg n1, if_pos List.mem_cons_self]
          omega
        · rw [if_neg (by simpa using xa)]
          by_cases xr : x ∈ r
          · rw [if_pos xr, if_pos (List.mem_cons_of_mem _ xr)]
            omega
          · rw [if_neg xr, if_neg fun z => by rcases List.mem_cons.mp z with z | z; exact xa z; exact xr z]
            omega
    rw [gen ks nd, ih, if_pos hx]
    rfl
theorem sum_le_eq (f g : Nat → Nat) : ∀ ks : List Nat, (∀ c ∈ ks, f c ≤ g c) → (ks.map f).sum = (ks.map g).sum → ∀ c ∈ ks, f c = g c
  | [], _, _, c, hc => by cases hc
  | a :: r, h, e, c, hc => by
    rw [List.map_cons, List.map_cons, List.sum_cons, List.sum_cons] at e
    have h1 := h a List.mem_cons_self
    have h2 : (r.map f).sum ≤ (r.map g).sum := by
      have gen : ∀ q : List Nat, (∀ c ∈ q, f c ≤ g c) → (q.map f).sum ≤ (q.map g).sum := by
        intro q
        induction q with
        | nil => intro _; exact Nat.le_refl _
        | cons b q ih =>
          intro hq
          have := ih fun c hc => hq c (List.mem_cons_of_mem _ hc)
          have := hq b List.mem_cons_self
          rw [List.map_cons, List.map_cons, List.sum_cons, List.sum_cons]
          omega
      exact gen r fun c hc => h c (List.mem_cons_of_mem _ hc)
    rcases List.mem_cons.mp hc with z | hc
    · rw [z]
      omega
    · exact sum_le_eq f g r (fun c hc => h c (List.mem_cons_of_mem _ hc)) (by omega) c hc
def whole (ks : List Nat) (n : Nat → Nat) : List Nat := ks.flatMap fun c => List.replicate (n c) c
theorem whole_count (n : Nat → Nat) (x : Nat) : ∀ ks : List Nat, ks.Nodup → (whole ks n).count x = if x ∈ ks then n x else 0
  | [], _ => rfl
  | a :: r, h => by
    obtain ⟨n1, n2⟩ := List.nodup_cons.mp h
    have e : whole (a :: r) n = List.replicate (n a) a ++ whole r n := rfl
    rw [e, List.count_append, List.count_replicate, whole_count n x r n2]
    by_cases xa : a = x
    · subst xa
      rw [if_pos (by simp), if_neg n1, if_pos List.mem_cons_self]
      rfl
    · rw [if_neg (by simpa using xa)]
      by_cases xr : x ∈ r
      · rw [if_pos xr, if_pos (List.mem_cons_of_mem _ xr)]
        omega
      · rw [if_neg xr, if_neg fun z => by rcases List.mem_cons.mp z with z | z; exact xa z.symm; exact xr z]
/-- a whole word has the letters that it may have -/
theorem word_perm {ks : List Nat} {n : Nat → Nat} (nd : ks.Nodup) {w : List Nat} (hw : w ∈ wordsN ks n ((ks.map n).sum)) : w.Perm (whole ks n) := by
  have ok := words_ok ks n nd ((ks.map n).sum)
  have h1 := sum_count ks nd w (ok.let1 w hw)
  have h2 := sum_le_eq (fun c => w.count c) n ks (fun c _ => ok.cnt w hw c) (h1.trans (ok.len w hw))
  refine List.perm_iff_count.mpr fun x => ?_
  rw [whole_count n x ks nd]
  by_cases hx : x ∈ ks
  · rw [if_pos hx]
    exact h2 x hx
  · rw [if_neg hx]
    exact List.count_eq_zero.mpr fun z => hx (ok.let1 w hw x z)
theorem whole_inc (n : Nat → Nat) : ∀ ks : List Nat, ks.Pairwise (· < ·) → (whole ks n).Pairwise (· ≤ ·)
  | [], _ => List.Pairwise.nil
  | a :: r, h => by
    cases h with
    | cons h1 h2 =>
      have e : whole (a :: r) n = List.replicate (n a) a ++ whole r n := rfl
      rw [e]
      refine List.pairwise_append.mpr ⟨?_, whole_inc n r h2, fun x hx y hy => ?_⟩
      · exact List.pairwise_replicate.mpr (.inr (Nat.le_refl _))
      · rw [(List.mem_replicate.mp hx).2]
        obtain ⟨c, hc, hy⟩ := List.mem_flatMap.mp hy
        rw [(List.mem_replicate.mp hy).2]
        exact Nat.le_of_lt (h1 c hc)
/-- sorted texts -/
theorem rising_pair : ∀ (l : List Str) (p : Str), PyProof.Rows.risingS p l = true → (p :: l).Pairwise fun a b => ¬ b.cps.toList < a.cps.toList
  | [], p, _ => List.pairwise_singleton _ _
  | x :: r, p, h => by
    have h : (!ltCps x.cps.toList p.cps.toList && PyProof.Rows.risingS x r) = true := h
    rw [Bool.and_eq_true, Bool.not_eq_true', PyProof.Rows.ltCps_eq, decide_eq_false_iff_not] at h
    have ih := rising_pair r x h.2
    refine List.Pairwise.cons (fun y hy => ?_) ih
    rcases List.mem_cons.mp hy with rfl | hy
    · exact h.1
    · cases ih with
      | cons h1 h2 =>
        have := h1 y hy
        intro hlt
        rcases Lyn.trich x.cps.toList y.cps.toList with z | z | z
        · exact h.1 (List.lt_trans z hlt)
        · rw [z] at h
          exact h.1 hlt
        · exact this z
theorem sorted_pair {l : List Str} (h : PyProof.Rows.sortedS l = true) : l.Pairwise fun a b => ¬ b.cps.toList < a.cps.toList := by
  cases l with
  | nil => exact List.Pairwise.nil
  | cons x r => exact rising_pair r x h
def one (c : Nat) : Str := strL [c]
theorem sort_signs {ys : List Str} {l D : List Nat} (p : ys.Perm (l.map one)) (s : sortedS ys = true) (q : l.Perm D) (inc : D.Pairwise (· ≤ ·)) : ys = D.map one := by
  refine sorted_uniq (fun a b : Str => !decide (b.cps.toList < a.cps.toList)) (fun x _ y _ h1 h2 => ?_) (p.trans (q.map one)) ((sorted_pair s).imp fun {a b} h => ?_) ?_
  · rw [Bool.not_eq_true', decide_eq_false_iff_not] at h1 h2
    rw [strL_of x, strL_of y, List.le_antisymm h1 h2]
  · rw [Bool.not_eq_true', decide_eq_false_iff_not]
    exact h
  · rw [List.pairwise_map]
    refine inc.imp fun {a b} h => ?_
    rw [Bool.not_eq_true', decide_eq_false_iff_not]
    show ¬ (strL [b]).cps.toList < (strL [a]).cps.toList
    rw [strL_list, strL_list, List.cons_lt_cons_iff]
    rintro (z | ⟨_, z⟩)
    · omega
    · exact List.lt_irrefl _ z
theorem sgn_one (l : List Nat) : sgn (strL l) = l.map one := by
  unfold sgn
  rw [strL_list]
  rfl
/-- the dict of counts -/
def kvC (cl : List (Nat × Nat)) : List (Key × V) := cl.map fun x => (.inr (one x.1), .int (x.2 : Int))
def nOf (cl : List (Nat × Nat)) (c : Nat) : Nat := ((cl.find? fun x => decide (x.1 = c)).map (·.2)).getD 0
def keysC (cl : List (Nat × Nat)) : List Nat := cl.map (·.1)
def totC (cl : List (Nat × Nat)) : Nat := (cl.map (·.2)).sum
theorem one_inj {a b : Nat} (h : one a = one b) : a = b := by
  have := strL_inj.mp h
  injection this
theorem valC (c : Nat) : ∀ cl : List (Nat × Nat), c ∈ keysC cl → valV (kvC cl) (.inr (one c)) = some (.int (nOf cl c : Nat))
  | [], h => by cases h
  | x :: r, h => by
    have e : kvC (x :: r) = (.inr (one x.1), .int (x.2 : Int)) :: kvC r := rfl
    rw [e]
    by_cases z : x.1 = c
    · rw [valV_pos (by rw [z])]
      unfold nOf
      rw [List.find?_cons_of_pos (by simpa using z)]
      rfl
    · rw [valV_neg (fun y => z (one_inj (by injection y)))]
      have hr : c ∈ keysC r := by
        rcases List.mem_cons.mp h with y | y
        · exact absurd y.symm z
        · exact y
      rw [valC c r hr]
      unfold nOf
      rw [List.find?_cons_of_neg (by simpa using z)]
theorem nOf_sum : ∀ cl : List (Nat × Nat), (keysC cl).Nodup → ((keysC cl).map (nOf cl)).sum = totC cl := by
  intro cl nd
  have e : (keysC cl).map (nOf cl) = cl.map (·.2) := by
    unfold keysC
    rw [List.map_map]
    refine List.map_congr_left fun x hx => ?_
    show nOf cl x.1 = x.2
    induction cl with
    | nil => cases hx
    | cons y r ih =>
      obtain ⟨n1, n2⟩ := List.nodup_cons.mp nd
      unfold nOf
      rcases List.mem_cons.mp hx with z | z
      · subst z
        rw [List.find?_cons_of_pos (by simp)]
        rfl
      · have ne : y.1 ≠ x.1 := fun w => n1 (by show y.1 ∈ _; rw [w]; exact List.mem_map_of_mem z)
        rw [List.find?_cons_of_neg (by simpa using ne)]
        exact ih n2 z
  unfold totC
  rw [e]
theorem vals_int (cl : List (Nat × Nat)) : (kvC cl).map (·.2) = (cl.map fun x => (x.2 : Int)).map V.int := by
  unfold kvC
  rw [List.map_map, List.map_map]
  rfl
theorem sum_int : ∀ cl : List (Nat × Nat), (cl.map fun x => (x.2 : Int)).sum = ((totC cl : Nat) : Int)
  | [] => rfl
  | x :: r => by
    have := sum_int r
    unfold totC at *
    rw [List.map_cons, List.map_cons, List.sum_cons, List.sum_cons, this]
    omega
theorem keys_str (cl : List (Nat × Nat)) : (kvC cl).map (·.1) = ((keysC cl).map one).map Sum.inr := by
  unfold kvC keysC
  rw [List.map_map, List.map_map, List.map_map]
  rfl
end WdM

set_option Elab.async false
set_option linter.all false
set_option maxRecDepth 100000
set_option maxHeartbeats 4000000
/-! SortDict: sorted(d), d a dict whose keys are texts. -/
namespace L2
open PySem PySem.Spec PyProof.Rows
section
variable {prog : Program} {w : World} {A : Around} {E : Value → Shared → Prop} {s : Shared}
theorem sorted_keys {d : Addr} {vs : List (Key × Value)} {xs : List Str} {ep : Nat} {R : Value → Shared → Prop} (hh : A.handled = none) (lo : (d == sysModules) = false) (hat : s.heap.DictAt (mixKind prog w) d vs ep)
    (ek : vs.map (·.1) = xs.map Sum.inr) (sz : xs.length ≤ 1000)
    (k : ∀ (h h' : Heap) (tk : Nat) (p : Addr) (out : List Value) (n : Nat) (ss : List Str), (∀ b o, s.heap.get? b = some o → h.get? b = some o) → (∀ b o, h.get? b = some o → h'.get? b = some o) → h.objs.size ≤ p → h'.get? p = some (seqObj "list" out.toArray n) → StrsAre out ss → ss.Perm xs → sortedS ss = true → R (.ref p) { s with heap := h', toks := tk }) :
    wpAny (model prog w) A (call (.builtin "sorted") [.ref d]) R E s := by
  have hsz : sizeLine = 2 ^ 24 := sizeLine_eq
  have hln : vs.length = xs.length := by
    have := congrArg List.length ek
    rw [List.length_map, List.length_map] at this
    exact this
  refine Calls.call_function_entry PyProof.Rows.kind_sorted PyProof.Rows.plain_sorted PyProof.Rows.entry_sorted (PyProof.Rows.args_sorted1 _) ?_
  unfold Builtin.«sorted»
  refine wpAny_bind (m := checkCount "sorted" 1 1 _) (wpAny_pure ?_)
  refine wpAny_bind (PySem.W.kdu_collect (A := A.in1) (PySem.W.kdl_dict (knd := mixKind prog w) (kvs := vs) (ep := ep) lo) (by simp [hh]) hat (by omega) fun h tk acc kp hi => ?_)
  have hl : acc.toList.length = xs.length := by rw [Array.length_toList, ← hln]; exact hi.1
  have hlz : acc.toList.length ≤ sizeLine := by omega
  have hS : StrsAre acc.toList xs := by
    refine strs_of hl fun j v hv => ?_
    rw [Array.getElem?_toList] at hv
    obtain ⟨kk, x, e, hk⟩ := hi.2 j v hv
    have e2 : (vs.map (·.1))[j]? = some kk := by rw [List.getElem?_map, e]; rfl
    rw [ek, List.getElem?_map] at e2
    obtain ⟨y, hy, rfl⟩ := Option.map_eq_some_iff.mp e2
    have hk : keyIs (Sum.inr y) v = true := hk
    rcases keyIs_shape hk with ⟨i, t, e3, _⟩ | ⟨z, t, e3, rfl⟩
    · exact nomatch e3
    · injection e3 with e3
      exact ⟨y, t, hy, by rw [e3]⟩
  refine wpAny_bind (wpAny_newList ?_ hlz)
  have hoL : (h.push (seqObj "list" acc.toList.toArray 0)).get? h.objs.size = some (seqObj "list" acc.toList.toArray 0) := Heap.get?_push_size _ rfl
  show wpAny _ _ _ _ _ { heap := h.push (seqObj "list" acc.toList.toArray 0), gens := s.gens, drawn := s.drawn, toks := tk, os := s.os }
  refine wpAny_bind (wpAny_holding (wpAny_call_entry slot_list_sort ⟨_, hoL, rfl⟩ entry_list_sort (list_sort_treeKAny strKind_oneLt hoL hS.keysOf (fun v₁ v₂ rest e => keyKind_strs (by rw [← e]; exact hS)) hlz fun st' a1 a2 => ⟨_, rfl, ?_⟩) (args_list_sort _)))
  obtain ⟨ss', h1, h2, h3⟩ := sorted_out_str hS a1 a2
  obtain ⟨ep2, gp⟩ := PyProof.Rows.sortedHeap_at (vs := acc.toList) (out := (arrOf st').map (·.2)) hoL
  refine wpAny_pure ⟨_, rfl, k h _ tk h.objs.size _ ep2 ss' kp (fun b o e => ?_) (Nat.le_refl _) gp h1 h2 h3⟩
  have lt := Heap.lt_size e
  rw [PyProof.Rows.sortedHeap_old (Nat.ne_of_lt lt) (by rw [Heap.size_push]; exact Nat.lt_succ_of_lt lt)]
  exact Heap.get?_push_of_some _ e
end
section
variable {X : Cx}
def rSortDk : List V → Hp → VK → Prop := fun vs H Q => ∃ (a : Addr) (kvs : List (Key × V)) (xs : List Str), vs = [V.ref a] ∧ H a = some (.dK kvs) ∧ kvs.map (·.1) = xs.map Sum.inr ∧ xs.length ≤ 1000 ∧
  ∀ (ys : List Str) (p : Addr), ys.Perm xs → sortedS ys = true → H p = none → Q (.ref p) (upd H p (.lst (ys.map V.str)))
theorem kv_keys : ∀ {kvs : List (Key × V)} {vs : List (Key × Value)}, KV kvs vs → vs.map (·.1) = kvs.map (·.1)
  | [], _, h => by cases h; rfl
  | p :: ps, _, h => by
    cases h with
    | cons a b => rw [List.map_cons, List.map_cons, kv_keys b, a.1]
theorem cr_sortedDk (hc : X.calm = true) : CallR X (.builtin "sorted") rSortDk := by
  intro pins s σ H vs us Q I r h
  obtain ⟨a, kvs, xs, rfl, ha, ek, hz, q⟩ := h
  obtain rfl := Vals.ref1 r
  have hsz : sizeLine = 2 ^ 24 := sizeLine_eq
  obtain ⟨_, lo, vs, rel, dof⟩ := dk_of I.hok ha
  obtain ⟨ep, hat⟩ := dof.dictAt
  refine sorted_keys (I.ok.hd hc) lo hat (by rw [kv_keys rel]; exact ek) hz fun h h' tk p out n ss kp0 kp le gp h1 h2 h3 => ?_
  have hlen : (ss.map V.str).length ≤ sizeLine := by
    rw [List.length_map, h2.length_eq]
    omega
  have J : Inv X pins σ H { s with heap := h } := I.kept kp0
  exact ⟨.ref p, upd H p (.lst (ss.map V.str)), J.laid (t' := tk) kp le ⟨hlen, out, n, vals_of_strs h1, gp⟩, rfl, q ss p h2 h3 (J.hok.fresh le)⟩
end
end L2

set_option Elab.async false
set_option linter.all false
set_option maxRecDepth 100000
set_option maxHeartbeats 4000000
/-! StrSet: a set of texts whose table can be walked; sorted(set(texts)). -/
namespace L2
open PySem PySem.Spec PyProof.Rows
def textOf (x : Int × Value) : Str := match x.2 with | .str z _ => z | _ => Str.empty
/-- the entry of a text -/
def TextE (P : Program) (w : World) (x : Int × Value) : Prop := ∃ z tk, x = ((strKind P w).hash z, Value.str z tk)
/-- the set at d holds these texts, no two alike -/
def TxSet (P : Program) (w : World) (hp : Heap) (d : Addr) (ks : List Str) : Prop :=
  ∃ ob arr age tab, hp.get? d = some ob ∧ ob.ExactSet ∧ ob.data = .set arr age tab ∧ (∀ x ∈ arr.toList, TextE P w x) ∧ (arr.toList.map textOf).Perm ks ∧ ks.Nodup ∧ arr.size < scanBound ∧
    tab.fits arr.size = true ∧ Ris tab.place.toList ∧ (w.params.followText "set-order" = true ∨ tab.led = true)
section
variable {P : Program} {w : World} {hp : Heap} {d : Addr} {ks : List Str}
theorem text_is {x : Int × Value} (e : TextE P w x) (k : Str) : (strKind P w).is k x.2 = true ↔ textOf x = k := by
  obtain ⟨z, tk, rfl⟩ := e
  show (strKind P w).is k (.str z tk) = true ↔ z = k
  constructor
  · intro q
    have : (z == k) = true := q
    exact beq_iff_eq.mp this
  · rintro rfl
    exact strKind_is _ _ _ _
theorem texts_elems {l : List (Int × Value)} (e : ∀ x ∈ l, TextE P w x) : ElemsOf (strKind P w) l := fun x hx => by
  obtain ⟨z, tk, rfl⟩ := e x hx
  exact ⟨⟨z, strKind_is _ _ _ _, rfl⟩, rfl⟩
end
section
variable {P : Program} {w : World} {A : Around} {E : Value → Shared → Prop} {s : Shared} {d : Addr} {ks : List Str}
theorem put_set {hp : Heap} {d : Addr} {ob : Obj} {arr arr' : Array (Int × Value)} {age : Nat} {tab tab' : SetTable} (live : hp.get? d = some ob) (dat : ob.data = .set arr age tab) :
    (hp.update d (Obj.putSet arr' tab')).get? d = some { ob with data := .set arr' (age + 1) tab' } := store_at live dat
/-- behind the table's new row: stored, and laid anew if it is too full -/
theorem tset_tail {gave : Bool → Sem Unit} (quiet : ∀ (b : Bool) (s1 : Shared) (QQ : Unit → Shared → Prop), QQ () s1 → wpAny (model P w) A (gave b) QQ E s1)
    {ob : Obj} {arr : Array (Int × Value)} {age : Nat} {tab : SetTable} (live : s.heap.get? d = some ob) (kind : ob.ExactSet) (dat : ob.data = .set arr age tab)
    {arr1 : Array (Int × Value)} {tab1 : SetTable} {ks1 : List Str} (ents : ∀ x ∈ arr1.toList, TextE P w x) (keys : (arr1.toList.map textOf).Perm ks1) (nodup : ks1.Nodup) (few : arr1.size < scanBound)
    (fits : tab1.fits arr1.size = true) (ris : Ris tab1.place.toList) (led : w.params.followText "set-order" = true ∨ tab1.led = true) {dummy : Bool} {R : Option Bool → Shared → Prop}
    (fin : ∀ h', Heap.SameBut d s.heap h' → TxSet P w h' d ks1 → R (some true) { s with heap := h' }) :
    wpAny (model P w) A (do
        storeSet d arr1 tab1
        if (!dummy && tab1.tooFull) = true then do
            gave (relayAll tab1 arr1 (SetTable.grown arr1.size)).2.2
            storeSet d (relayAll tab1 arr1 (SetTable.grown arr1.size)).1 (relayAll tab1 arr1 (SetTable.grown arr1.size)).2.1
            pure (some true)
          else pure (some true)) R E s := by
  have p1 := put_set (arr' := arr1) (tab' := tab1) live dat
  have same1 := Heap.SameBut.update s.heap d (Obj.putSet arr1 tab1)
  refine wpAny_bind (wpAny_storeSet_of live dat ?_ (fits_of_scanBound few))
  by_cases full : (!dummy && tab1.tooFull) = true
  · rw [if_pos full]
    have c1 := relayAll_perm tab1 arr1 (SetTable.grown arr1.size)
    have c2 := relayAll_fits tab1 arr1 (SetTable.grown arr1.size)
    have c3 := relayAll_ris tab1 arr1 (SetTable.grown arr1.size)
    have c4 := relayAll_led tab1 arr1 (SetTable.grown arr1.size)
    generalize relayAll tab1 arr1 (SetTable.grown arr1.size) = lay at c1 c2 c3 c4 ⊢
    obtain ⟨arr2, tab2, gv⟩ := lay
    dsimp only at c1 c2 c3 c4 ⊢
    have size2 : arr2.size = arr1.size := by rw [← Array.length_toList, ← Array.length_toList, c1.length_eq]
    refine wpAny_bind (quiet _ _ _ ?_)
    refine wpAny_bind (wpAny_storeSet_of p1 rfl ?_ (fits_of_scanBound (by rw [size2]; exact few)))
    refine wpAny_pure (fin _ (same1.trans (Heap.SameBut.update _ d _)) ⟨_, arr2, _, tab2, put_set p1 rfl, kind, rfl, fun x hx => ents x (c1.mem_iff.mp hx), (c1.map textOf).trans keys, nodup, by rw [size2]; exact few, c2, c3, ?_⟩)
    rcases led with l | l
    · exact .inl l
    · exact .inr (by rw [c4]; exact l)
  · rw [if_neg full]
    exact wpAny_pure (fin _ same1 ⟨_, arr1, _, tab1, p1, kind, rfl, ents, keys, nodup, few, fits, ris, led⟩)
theorem tset_add {z : Str} {tk : Tok} {QQ : Bool → Shared → Prop} (R : TxSet P w s.heap d ks) (room : ks.length + 1 < scanBound)
    (fin : ∀ (b : Bool) h', Heap.SameBut d s.heap h' → TxSet P w h' d (if z ∈ ks then ks else ks ++ [z]) → QQ b { s with heap := h' }) :
    wpAny (model P w) A (setAddHashed d (.str z tk) ((strKind P w).hash z)) QQ E s := by
  obtain ⟨ob, arr, age, tab, live, kind, dat, ents, keys, nodup, few, fits, ris, led⟩ := R
  have isz : (strKind P w).is z (.str z tk) = true := strKind_is _ _ _ _
  have scan : (Value.str z tk).scannable = true := rfl
  have elems := texts_elems ents
  have mem : z ∈ ks ↔ ∃ x ∈ arr.toList, (strKind P w).is z x.2 = true := by
    rw [← keys.mem_iff, List.mem_map]
    exact ⟨fun ⟨x, hx, e⟩ => ⟨x, hx, (text_is (ents x hx) z).mpr e⟩, fun ⟨x, hx, e⟩ => ⟨x, hx, (text_is (ents x hx) z).mp e⟩⟩
  have size : arr.size = ks.length := by rw [← keys.length_eq, List.length_map, Array.length_toList]
  unfold setAddHashed setAddHashedIn
  refine wpAny_holding (wpAny_bind (wpAny_setState_of live dat fits ?_))
  dsimp only
  rw [byScan_of scan few elems, if_pos rfl]
  unfold setAddByScan
  refine wpAny_bind (wpAny_bind (wpAny_rule (wpAny_bind (wpAny_setScan_of isz live dat fits elems ?_))))
  cases found : List.findIdx? (fun x => (strKind P w).is z x.2) arr.toList with
  | some j =>
    dsimp only
    obtain ⟨lt, yes, _⟩ := List.findIdx?_eq_some_iff_getElem.mp found
    have inn : z ∈ ks := mem.mpr ⟨_, List.getElem_mem lt, yes⟩
    refine wpAny_pure (wpAny_pure ?_)
    exact fin _ s.heap (Heap.SameBut.refl d s.heap) (by rw [if_pos inn]; exact ⟨ob, arr, age, tab, live, kind, dat, ents, keys, nodup, few, fits, ris, led⟩)
  | none =>
    dsimp only
    have out : z ∉ ks := fun i => by
      obtain ⟨x, hx, e⟩ := mem.mp i
      have c := List.findIdx?_eq_none_iff.mp found x hx
      rw [e] at c
      cases c
    rw [if_neg out] at fin
    have c1 := layNew_perm tab arr ((strKind P w).hash z) (.str z tk)
    have c2 := layNew_fits tab arr ((strKind P w).hash z) (.str z tk)
    have c3 := layNew_ris tab arr ((strKind P w).hash z) (.str z tk) ris
    have c4 := layNew_led tab arr ((strKind P w).hash z) (.str z tk)
    generalize layNew tab arr ((strKind P w).hash z) (.str z tk) = lay at c1 c2 c3 c4 ⊢
    obtain ⟨arr1, tab1, dummy, gv⟩ := lay
    dsimp only at c1 c2 c3 c4 ⊢
    rw [Array.toList_push] at c1
    have ents1 : ∀ x ∈ arr1.toList, TextE P w x := fun x hx => by
      rcases List.mem_append.mp (c1.mem_iff.mp hx) with i | i
      · exact ents x i
      · exact ⟨z, tk, List.mem_singleton.mp i⟩
    have keys1 : (arr1.toList.map textOf).Perm (ks ++ [z]) := by
      refine (c1.map textOf).trans ?_
      rw [List.map_append]
      exact keys.append_right _
    have nodup1 : (ks ++ [z]).Nodup := List.nodup_append.mpr ⟨nodup, List.nodup_cons.mpr ⟨List.not_mem_nil, List.nodup_nil⟩, fun x hx y hy e => by rw [List.mem_singleton.mp hy] at e; exact out (e ▸ hx)⟩
    have few1 : arr1.size < scanBound := by
      rw [← Array.length_toList, c1.length_eq, List.length_append, Array.length_toList, size]
      exact room
    have led1 : w.params.followText "set-order" = true ∨ tab1.led = true := by
      rcases led with l | l
      · exact .inl l
      · exact .inr (by rw [c4]; exact l)
    have quiet : ∀ (b : Bool) (s1 : Shared) (QU : Unit → Shared → Prop), QU () s1 → wpAny (model P w) A (match b with | true => rule "set.scan.the-table-gave-way" | false => pure ()) QU E s1 := fun b s1 QU q => by
      cases b
      · exact wpAny_pure q
      · exact wpAny_rule q
    refine wpAny_bind (quiet _ _ _ ?_)
    by_cases plain : tab1.plain = true
    · rw [if_pos plain]
      refine wpAny_bind ?_
      rw [hashByValue_scannable 8 scan]
      refine wpAny_pure ?_
      generalize plainKind (Value.str z tk) = pk
      cases pk
      · simp only [Bool.false_eq_true, ↓reduceIte]
        refine tset_tail ?_ live kind dat ents1 keys1 nodup1 few1 (SetTable.fits_plain_off c2) ?_ ?_ ?_
        · intro b s1 QU q
          cases b
          · exact wpAny_pure q
          · exact wpAny_rule q
        · exact c3
        · exact led1
        · intro h' sb r
          exact wpAny_pure (fin _ h' sb r)
      · simp only [↓reduceIte]
        refine tset_tail ?_ live kind dat ents1 keys1 nodup1 few1 c2 ?_ ?_ ?_
        · intro b s1 QU q
          cases b
          · exact wpAny_pure q
          · exact wpAny_rule q
        · exact c3
        · exact led1
        · intro h' sb r
          exact wpAny_pure (fin _ h' sb r)
    · rw [if_neg plain]
      refine wpAny_bind (wpAny_pure ?_)
      simp only [↓reduceIte]
      refine tset_tail ?_ live kind dat ents1 keys1 nodup1 few1 c2 c3 led1 ?_
      · intro b s1 QU q
        cases b
        · exact wpAny_pure q
        · exact wpAny_rule q
      · intro h' sb r
        exact wpAny_pure (fin _ h' sb r)
end
end L2
namespace L2
open PySem PySem.Spec PyProof.Rows
theorem ddS_snoc_in (l : List Str) (x : Str) : ddS (l ++ [x]) = if x ∈ ddS l then ddS l else ddS l ++ [x] := ddS_snoc l x
section
variable {P : Program} {w : World} {A : Around} {E : Value → Shared → Prop} {s : Shared}
/-- set.__new__ with an argument: an empty set, whose table may be walked -/
theorem new_set_led (v : Value) {QQ : Value → Shared → Prop}
    (k : QQ (.ref s.heap.objs.size) { s with heap := s.heap.push { cls := .type "set", dict := none, data := .set #[] 0 (.fresh 0 0 (!w.params.followText "set-order")) } }) :
    codeAny (model P w) A (.call (.builtin "set.__new__") ⟨[.type "set", v], []⟩) (wants QQ E) s := by
  refine codeAny_of_tree ?_
  show wpAny _ A.in1 (do checkBuiltinCall "set.__new__" ⟨[.type "set", v], []⟩; again (.builtin "set.__new__" ⟨[.type "set", v], []⟩)) _ _ s
  refine wpAny_bind (wpAny_of_eq (F.newCall_set_1 v) (wpAny_pure ⟨plainId_quiet F.plain_set_new _, codeAny_builtin F.entry_set_new ?_⟩))
  rw [Around.under_plainId F.plain_set_new _]
  unfold Builtin.«set.__new__» Builtin.Frozenset.newClass
  have own := sub_set_self
  rcases s with ⟨heap, gens, drawn, toks, os⟩
  dsimp only
  wp_walk
  refine wpAny_askSetting (wpAny_pure ?_)
  dsimp only
  simp only [newObj]
  exact wpAny_bind (wpAny_alloc (wpAny_pure (wpAny_pure k)))
theorem txset_fresh {hp : Heap} : TxSet P w (hp.push { cls := .type "set", dict := none, data := .set #[] 0 (.fresh 0 0 (!w.params.followText "set-order")) }) hp.objs.size [] := by
  refine ⟨_, #[], 0, _, Heap.get?_push_size _ rfl, ⟨rfl, rfl, rfl⟩, rfl, fun x hx => by simp at hx, by simp, List.nodup_nil, by decide, by rfl, List.Pairwise.nil, ?_⟩
  cases e : w.params.followText "set-order"
  · exact .inr rfl
  · exact .inl rfl
end
end L2
namespace L2
open PySem PySem.Spec PyProof.Rows
section
variable {P : Program} {w : World} {B : Around} {RR : Result → Shared → Prop} {it : Addr} {fq ww : List Addr} {GG : Array GenState → Array GenState → Prop} {m : Nat} {PP : Nat → Value → Prop} {TT : Nat → Shared → Prop}
/-- the texts that an iterator gives, put into a set -/
theorem texts_in (U : WalksS P w B.in1 it fq ww GG m PP TT) (so : Addr) (hso : so ∉ fq) (ys : List Str) (hys : ys.length = m) (few : m < 2000) (hv : ∀ i v, PP i v → ∃ t, v = .str (ys.getD i Str.empty) t) :
    ∀ (left i : Nat) (s : Shared), m - i = left → i ≤ m → TT i s → TxSet P w s.heap so (ddS (ys.take i)) →
      (∀ s', Moved (so :: ww) GG s s' → TxSet P w s'.heap so (ddS ys) → RR (.ok (.ret .none)) s') →
      codeAny (model P w) B (.builtin "set.update.loop" ⟨[.ref so, .ref it], []⟩) RR s := by
  have apart : so ∉ ww := fun h => hso (U.sub _ h)
  have wider : ∀ b ∈ ww, b ∈ so :: ww := fun b hb => List.mem_cons_of_mem _ hb
  have move : ∀ {s s' : Shared} {ks : List Str}, Moved ww GG s s' → TxSet P w s.heap so ks → TxSet P w s'.heap so ks := fun mv r => by
    obtain ⟨ob, arr, age, tab, live, rest⟩ := r
    exact ⟨ob, arr, age, tab, mv.heap so _ apart live, rest⟩
  intro left
  induction left with
  | zero =>
    intro i s hl hi ht hS hR
    obtain rfl : i = m := by omega
    rw [← hys, List.take_length] at hS
    refine codeAny_builtin F.entry_set_update_loop ?_
    rw [Around.under_plainId F.plain_set_update_loop _]
    exact wpAny_bind (U.done s _ _ ht fun s' mv => wpAny_pure (hR s' (mv.mono wider) (move mv hS)))
  | succ left ih =>
    intro i s hl hi ht hS hR
    have him : i < m := by omega
    refine codeAny_builtin F.entry_set_update_loop ?_
    rw [Around.under_plainId F.plain_set_update_loop _]
    refine wpAny_bind (U.item i s _ _ him ht fun v s' hP ht' mv => ?_)
    obtain ⟨t, rfl⟩ := hv i v hP
    have hS' := move mv hS
    have hlen := ddS_len (ys.take i)
    rw [List.length_take] at hlen
    refine wpAny_bind (wpAny_holding ?_)
    unfold setAdd
    refine wpAny_holding (wpAny_bind ((strKind P w).pyHash (k := ys.getD i Str.empty) (strKind_is _ _ _ _) ?_))
    refine tset_add (s := { s' with toks := s'.toks + 1 }) hS' (by unfold scanBound; omega) fun b0 h' sb hS2 => ?_
    have ey : ys.take (i + 1) = ys.take i ++ [ys.getD i Str.empty] := by
      rw [List.take_succ, List.getD_eq_getElem?_getD, List.getElem?_eq_getElem (by omega)]
      rfl
    have hS3 : TxSet P w h' so (ddS (ys.take (i + 1))) := by
      rw [ey, ddS_snoc]
      exact hS2
    refine wpAny_pure ⟨plainId_quiet F.plain_set_update_loop _, ih (i + 1) _ (by omega) him (U.frame _ s' _ _ ht' (Nat.le_succ _) fun b hb o e => ?_) hS3 fun s2 mv2 hS4 => ?_⟩
    · rw [sb.2 b (fun z : b = so => hso (by rw [← z]; exact hb))]
      exact e
    · refine hR s2 (Moved.trans U.gtrans ((mv.mono wider).then_heap (Nat.le_succ _) fun b o hb e => ?_) mv2) hS4
      rw [sb.2 b (fun z : b = so => hb (by rw [z]; exact List.mem_cons_self))]
      exact e
end
section
variable {P : Program} {w : World} {B : Around} {EE : Value → Shared → Prop} {s : Shared}
/-- set(texts), a list -/
theorem set_texts {ls : Addr} {its : Array Value} {ys : List Str} {QQ : Value → Shared → Prop} (hd : B.handled = none) (hl : s.heap.IsList ls its) (hy : StrsAre its.toList ys) (few : ys.length < 2000)
    (fin : ∀ (h' : Heap) (tk : Nat), TxSet P w h' s.heap.objs.size (ddS ys) → (∀ b o, b < s.heap.objs.size → s.heap.get? b = some o → h'.get? b = some o) → QQ (.ref s.heap.objs.size) { s with heap := h', toks := tk }) :
    wpAny (model P w) B (call (.type "set") [.ref ls]) QQ EE s := by
  obtain ⟨cc, tl, mro⟩ := F.called_set.mro
  have md := F.called_set.made
  have sb := F.called_set.sub
  have q1 := F.called_set.notType
  have q2 := F.called_set.canCreate
  have q3 := F.typeCall_set_1 (.ref ls)
  refine wpAny_call (codeAny_of_tree ?_)
  show wpAny _ _ (callAny (.type "set") _) _ _ _
  refine wpAny_pure ⟨Code.quiet_builtin _ (by decide +kernel), codeAny_builtin F.entry_type_call ?_⟩
  rw [Around.under_plain (weight_type_call_type "set" [.ref ls] []) rfl]
  repeat (any_goals (first | assumption | wp_step))
  refine codeAny_mono (new_set_led (.ref ls) (E := EE) (QQ := fun ob s1 => ob = .ref s.heap.objs.size ∧ s1 = { s with heap := s.heap.push (setOb (!w.params.followText "set-order")) }) ⟨rfl, rfl⟩) fun r s1 hr => ?_
  rcases r with e | fl
  · exact hr
  cases fl with
  | ret ob =>
    obtain ⟨rfl, rfl⟩ := hr
    generalize hled : (!w.params.followText "set-order") = led
    have gS : (s.heap.push (setOb led)).get? s.heap.objs.size = some (setOb led) := Heap.get?_push_size _ rfl
    have tS : Shared.TypeIs { s with heap := s.heap.push (setOb led) } (.ref s.heap.objs.size) "set" := ⟨_, gS, rfl⟩
    have i1 := F.called_set.init.lookup
    have i2 := F.called_set.init.bind (.ref s.heap.objs.size)
    repeat (any_goals (first | assumption | wp_step))
    refine codeAny_mono (codeAny_call_builtin (R := wants (fun r s2 => r = .none ∧ ∃ h' tk, s2 = { s with heap := h', toks := tk } ∧ TxSet P w h' s.heap.objs.size (ddS ys) ∧ (∀ b o, b < s.heap.objs.size → s.heap.get? b = some o → h'.get? b = some o)) EE) F.called_set.init.plain F.entry_set_init (check_set_init_1 tS ?_)) fun r2 s2 hr2 => ?_
    · obtain ⟨ot, got, ct, nt, dt⟩ := hl
      rcases ot with ⟨otc, otd, otx, ots⟩
      simp only at ct dt
      subst ct
      subst dt
      have got2 : (s.heap.push (setOb led)).get? ls = some { cls := .type "list", dict := otd, data := .seq its nt, slots := ots } := Heap.get?_push_of_some _ got
      have u1 := F.sub_list_set
      have u2 := F.sub_list_frozenset
      have u3 : (Value.type "list" == Value.type "dict") = false := by decide
      have lst1 : (s.heap.push (setOb led)).IsList ls its := ⟨_, got2, rfl, nt, rfl⟩
      unfold Builtin.«set.__init__» noKeywords Builtin.Frozenset.updateFrom
      generalize hPI : pyIter = PI
      wp_walk
      subst hPI
      refine wpAny_pyIter_list lst1 ?_
      refine wpAny_bind (wpAny_runValue ?_)
      have lt1 : ls < s.heap.objs.size := Heap.lt_size got
      have hd3 : B.in1.in1.in1.handled = none := by simp [hd]
      have ne1 : ls ≠ (s.heap.push (setOb led)).objs.size := by
        rw [Heap.size_push]
        exact Nat.ne_of_lt (Nat.lt_succ_of_lt lt1)
      have so1 : s.heap.objs.size ∉ [(s.heap.push (setOb led)).objs.size, ls] := by
        rw [Heap.size_push]
        simp only [List.mem_cons, List.mem_singleton, List.not_mem_nil, or_false, not_or]
        exact ⟨Nat.ne_of_lt (Nat.lt_succ_self _), Nat.ne_of_gt lt1⟩
      have len1 : ys.length = its.size := by rw [← StrsAre.len_eq hy, Array.length_toList]
      refine texts_in ((Walks.list hd3 _ ls ne1 its).toS) s.heap.objs.size so1 ys len1 (by omega) (fun i v e => SS.strs_at hy i v (by rw [Array.getElem?_toList]; exact e)) (its.size - 0) 0 _ (by omega) (Nat.zero_le _)
        ⟨⟨_, Heap.get?_push_size _ rfl, rfl, rfl⟩, lst1.push _⟩ ?start ?done
      case start =>
        obtain ⟨ob, arr, age, tab, live, rest⟩ := txset_fresh (P := P) (w := w) (hp := s.heap)
        rw [hled] at live
        exact ⟨ob, arr, age, tab, Heap.get?_push_of_some _ live, rest⟩
      case done =>
        intro s' mv hS
        rcases s' with ⟨h', g', d', tk', os'⟩
        obtain rfl : g' = s.gens := mv.gens
        obtain rfl : d' = s.drawn := mv.drawn
        obtain rfl : os' = s.os := mv.os
        refine wpAny_pure ?_
        show wpAny _ _ (ret Value.none) _ _ _
        refine wpAny_pure ⟨rfl, h', tk', rfl, hS, fun b o hb e => ?_⟩
        have n1 : b ≠ s.heap.objs.size := Nat.ne_of_lt hb
        have n2 : b ≠ (s.heap.push (setOb led)).objs.size := by
          rw [Heap.size_push]
          exact Nat.ne_of_lt (Nat.lt_succ_of_lt hb)
        exact mv.heap b o (by simp only [List.mem_cons, List.mem_singleton, List.not_mem_nil, or_false, not_or]; exact ⟨n1, n2⟩) (Heap.get?_push_of_some _ (Heap.get?_push_of_some _ e))
    · rcases r2 with e | fl2
      · exact hr2
      cases fl2 with
      | ret r =>
        obtain ⟨rfl, h', tk, rfl, hS, hk⟩ := hr2
        repeat (any_goals (first | assumption | wp_step))
        exact fin _ _ hS hk
      | _ => exact hr2.elim
  | _ => exact hr.elim
end
end L2
namespace L2
open PySem PySem.Spec PyProof.Rows
section
variable {P : Program} {w : World} {A : Around} {E : Value → Shared → Prop} {s : Shared}
/-- sorted(set of texts) -/
theorem sorted_texts {d : Addr} {ks : List Str} {QQ : Value → Shared → Prop} (R : TxSet P w s.heap d ks) (hh : A.handled = none)
    (fin : ∀ (s' : Shared) (p : Addr) (out : List Value) (c : Nat) (ys : List Str), (∀ b o, s.heap.get? b = some o → s'.heap.get? b = some o) → s'.gens = s.gens → s'.os = s.os → s.heap.objs.size ≤ p →
      s'.heap.get? p = some (seqObj "list" out.toArray c) → StrsAre out ys → ys.Perm ks → sortedS ys = true → QQ (.ref p) s') :
    wpAny (model P w) A (call (.builtin "sorted") [.ref d]) QQ E s := by
  obtain ⟨ob, arr, age, tab, live, kind, dat, ents, keys, nodup, few, fits, ris, led⟩ := R
  refine Calls.call_function_entry kind_sorted plain_sorted entry_sorted (args_sorted1 _) ?_
  unfold Builtin.«sorted»
  refine wpAny_bind (m := checkCount "sorted" 1 1 _) (wpAny_pure ?_)
  refine wpAny_bind (collect_set (A := A.in1) hh ⟨ob, live, kind.1, dat⟩ fits few ris led fun s1 vs k1 hz g1 o1 pm => ?_)
  have allS : ∀ v ∈ vs, ∃ z tk, v = Value.str z tk := fun v hv => by
    obtain ⟨x, hx, e⟩ := List.mem_map.mp (pm.mem_iff.mp hv)
    obtain ⟨z, tk, rfl⟩ := ents x hx
    exact ⟨z, tk, e.symm⟩
  have hS : StrsAre vs (vs.map strOf) := strsAre_map vs allS
  have pk : (vs.map strOf).Perm ks := by
    have q := pm.map strOf
    rw [List.map_map] at q
    refine q.trans ?_
    rw [show arr.toList.map (strOf ∘ fun x => x.2) = arr.toList.map textOf from List.map_congr_left fun x hx => by
      obtain ⟨z, tk, rfl⟩ := ents x hx
      rfl]
    exact keys
  have hlz : vs.length ≤ sizeLine := by
    rw [pm.length_eq, List.length_map, Array.length_toList]
    exact fits_of_scanBound few
  refine wpAny_bind (wpAny_newList ?_ hlz)
  have hoL : (s1.heap.push (seqObj "list" vs.toArray 0)).get? s1.heap.objs.size = some (seqObj "list" vs.toArray 0) := Heap.get?_push_size _ rfl
  refine wpAny_bind (wpAny_holding (wpAny_call_entry slot_list_sort ⟨_, hoL, rfl⟩ entry_list_sort (list_sort_treeKAny strKind_oneLt hoL hS.keysOf (fun v₁ v₂ rest e => keyKind_strs (by rw [← e]; exact hS)) hlz fun st' a1 a2 => ⟨_, rfl, ?_⟩) (args_list_sort _)))
  obtain ⟨ss', h1, h2, h3⟩ := sorted_out_str hS a1 a2
  obtain ⟨c, hc⟩ := PyProof.Rows.sortedHeap_at (vs := vs) (out := (arrOf st').map (·.2)) hoL
  refine wpAny_pure ⟨_, rfl, fin _ s1.heap.objs.size _ c ss' (fun b u e0 => ?_) g1 o1 hz hc h1 (h2.trans pk) h3⟩
  have e := k1 b u e0
  have lt := Heap.lt_size e
  show (sortedHeap (s1.heap.push (seqObj "list" vs.toArray 0)) s1.heap.objs.size vs _).get? b = some u
  rw [PyProof.Rows.sortedHeap_old (Nat.ne_of_lt lt) (by rw [Heap.size_push]; exact Nat.lt_succ_of_lt lt)]
  exact Heap.get?_push_of_some _ e
end
section
variable {X : Cx}
/-- sorted(set(texts)) -/
def tSortSetL (K : PySem.W.Frag) (ta : TE) : TE := fun σ H Q => ta σ H fun x H1 => ∃ (l : Addr) (xs : List Str), x = V.ref l ∧ SqL K H1 l (xs.map V.str) ∧ xs.length < 2000 ∧ ∀ (ys : List Str) (p : Addr), ys.Perm (ddS xs) → sortedS ys = true → H1 p = none → Q (.ref p) (upd H1 p (.lst (ys.map V.str)))
theorem pe_sortSetL {a : Expr} {ta : TE} {p p2 q pos : Pos} (hc : X.calm = true) (hg : Gl X "sorted") (hm : X.mg "sorted" = none) (hg2 : Gl X "set") (hm2 : X.mg "set" = none) (ha : PE X a ta)
    (na : starEach [a] X.env = (false, eval a X.env) :: starEach [] X.env := by rfl) : PE X (.Call (.Name "sorted" p) [.Call (.Name "set" p2) [a] [] q] [] pos) (tSortSetL X.K ta) := by
  refine ⟨fun pins s σ H Q I h => ?_⟩
  refine Call_ (ld_blt I hg hm (show bootBuiltins "sorted" = some (.builtin "sorted") from by decide +kernel) ?_)
  refine callWith_builtin1 (args_cons ?_ rfl) rfl rfl
  refine Call_ (ld_blt I hg2 hm2 boot_set ?_)
  refine callWith_type1 (args_cons (thn (ha.run pins s σ H _ I h) fun v s1 ⟨x, H1, I1, r1, q1⟩ => args_nil ?_) na) na rfl
  obtain ⟨l, xs, rfl, hq, few, q1⟩ := q1
  cases r1
  obtain ⟨its, r, pl, hz⟩ := I1.list hq
  refine set_texts (I1.ok.hd hc) pl.isList (ys := xs) (by simpa using strsAre_of r) few fun h' tk hS hk => ?_
  refine args_nil ?_
  have I2 : Inv X pins σ H1 { s1 with heap := h', toks := tk } := I1.kept fun b o e => hk b o (Heap.lt_size e) e
  refine sorted_texts hS (I1.ok.hd hc) fun s' pp out c ys k0 g1 o1 le hp h1 h2 h3 => ?_
  have small := ddS_len xs
  have hsz : sizeLine = 2 ^ 24 := sizeLine_eq
  have hlen : (ys.map V.str).length ≤ sizeLine := by
    rw [List.length_map, h2.length_eq]
    omega
  have hn : H1 pp = none := I2.hok.fresh le
  exact ⟨.ref pp, upd H1 pp (.lst (ys.map V.str)), I2.call' (ch := []) o1 (Un.laid k0 le hn) (I2.hok.laid k0 le ⟨hlen, out, c, vals_of_strs h1, hp⟩) (by rw [g1]; exact I2.bare) (fun _ z => nomatch z), rfl, q1 ys pp h2 h3 hn⟩
end
end L2

set_option Elab.async false
set_option linter.all false
set_option maxRecDepth 100000
set_option maxHeartbeats 4000000
/-! LenSet: len(set(list of texts)), fewer than 2000. -/
namespace L2
open PySem PySem.Spec PyProof.Rows
section
variable {X : Cx}
def tLenSetL (K : PySem.W.Frag) (ta : TE) : TE := fun σ H Q => ta σ H fun x H1 => ∃ (l : Addr) (ys : List Str), x = V.ref l ∧ SqL K H1 l (ys.map V.str) ∧ ys.length < 2000 ∧ Q (.int ((ddS ys).length : Nat)) H1
theorem pe_lenSetL {a : Expr} {ta : TE} {p p2 q pos : Pos} (hc : X.calm = true) (hg : Gl X "len") (hm : X.mg "len" = none) (hg2 : Gl X "set") (hm2 : X.mg "set" = none) (ha : PE X a ta)
    (na : starEach [a] X.env = (false, eval a X.env) :: starEach [] X.env := by rfl) : PE X (.Call (.Name "len" p) [.Call (.Name "set" p2) [a] [] q] [] pos) (tLenSetL X.K ta) := by
  refine ⟨fun pins s σ H Q I h => ?_⟩
  refine Call_ (ld_blt I hg hm boot_len ?_)
  refine callWith_builtin1 (args_cons ?_ rfl) rfl rfl
  refine Call_ (ld_blt I hg2 hm2 boot_set ?_)
  refine callWith_type1 (args_cons (thn (ha.run pins s σ H _ I h) fun v s1 ⟨x, H1, I1, r1, q1⟩ => args_nil ?_) na) na rfl
  obtain ⟨l, ys, rfl, hq, few, q1⟩ := q1
  cases r1
  obtain ⟨its, r, pl, hz⟩ := I1.list hq
  have small := ddS_len ys
  refine set_texts (I1.ok.hd hc) pl.isList (ys := ys) (by simpa using strsAre_of r) few fun h' tk hS hk => ?_
  refine args_nil ?_
  obtain ⟨o, arr, age, tab, ho, hex, hd, _, pm, _, _, hf, _, _⟩ := hS
  have hn : arr.size = (ddS ys).length := by
    have := pm.length_eq
    rw [List.length_map, Array.length_toList] at this
    exact this
  have I2 : Inv X pins σ H1 { s1 with heap := h', toks := tk } := I1.kept fun b o e => hk b o (Heap.lt_size e) e
  exact call_len_set ho hex hd hf (by rw [hn] <;> omega) ⟨.int ((ddS ys).length : Nat), H1, I2.tok _, ⟨_, by rw [hn]⟩, q1⟩
end
/-- no two alike -/
theorem ddS_id {l : List Str} (h : l.Nodup) : ddS l = l := by
  have gen : ∀ (m acc : List Str), (acc ++ m).Nodup → m.foldl (fun acc x => if x ∈ acc then acc else acc ++ [x]) acc = acc ++ m := by
    intro m
    induction m with
    | nil => intro acc _; exact (List.append_nil acc).symm
    | cons x m ih =>
      intro acc h
      have nx : x ∉ acc := fun z => by
        have := List.pairwise_append.mp h
        exact this.2.2 x z x List.mem_cons_self rfl
      show m.foldl _ (if x ∈ acc then acc else acc ++ [x]) = _
      rw [if_neg nx]
      have e : acc ++ [x] ++ m = acc ++ x :: m := by rw [List.append_assoc]; rfl
      rw [ih (acc ++ [x]) (by rw [e]; exact h), e]
  exact gen l [] h
end L2

set_option Elab.async false
set_option linter.all false
set_option maxRecDepth 100000
set_option maxHeartbeats 4000000
namespace T12
open PySem PySem.Spec PyProof.Rows L2 EK BwL WdM
abbrev sCO : Stmt := top 21
abbrev sWO : Stmt := top 22
structure TxtW (K : PySem.W.Frag) (mg : Str → Option Value) : Prop where
  range : mg "range" = none
  sum : mg "sum" = none
  sorted : mg "sorted" = none
theorem WellAt.mono {H : Hp} {a : Addr} {n m : Int} (h : WellAt H a n) (hm : n ≤ m) : WellAt H a m := by
  obtain ⟨w0, w1, w2, e, h1, h2, h3, h4⟩ := h
  exact ⟨w0, w1, w2, e, h1, h2, h3, by omega⟩
theorem WellAt.keep {H H' : Hp} {a : Addr} {n : Int} (h : WellAt H a n) (s : ∀ o, H a = some o → H' a = some o) : WellAt H' a n := by
  obtain ⟨w0, w1, w2, e, h1⟩ := h
  exact ⟨w0, w1, w2, s _ e, h1⟩
theorem KeepB.of {a : Addr} {H H' : Hp} (s : ∀ b o, H b = some o → H' b = some o) : KeepB a H H' := fun b o e _ => s b o e
theorem KeepB.trans {a : Addr} {H H1 H2 : Hp} (s : KeepB a H H1) (t : KeepB a H1 H2) : KeepB a H H2 := fun b o e n => t b o (s b o e n) n
def abcL : List Nat := [97, 98, 99, 120, 121, 122]
def spCO : Sp := fun vs H Q _ => ∃ (a : Addr) (n : Int) (m q : Nat), vs = [.ref a, .int (m : Int), .int (q : Int)] ∧ WellAt H a n ∧ n ≤ 900000 ∧ m ≤ 10 ∧ q ≤ 5 ∧ ∀ p cl H', H p = none → H' p = some (.dK (kvC cl)) → cl.length ≤ q → keysC cl = abcL.take cl.length → (∀ x ∈ cl, x.2 ≤ m) → WellAt H' a (n + 10) → KeepB a H H' → Q (.ref p) H'
def spWO : Sp := fun vs H Q _ => ∃ (c : Addr) (cl : List (Nat × Nat)), vs = [.ref c] ∧ H c = some (.dK (kvC cl)) ∧ (keysC cl).Pairwise (· < ·) ∧ cl.length ≤ 3 ∧ totC cl ≤ 6 ∧ ∀ p H', Same H H' → H' p = some (.lst (wsV (wordsN (keysC cl) (nOf cl) (totC cl)))) → Q (.ref p) H'
theorem val_none (c : Nat) : ∀ cl : List (Nat × Nat), c ∉ keysC cl → valV (kvC cl) (.inr (one c)) = none
  | [], _ => rfl
  | x :: r, h => by
    have e : kvC (x :: r) = (.inr (one x.1), .int (x.2 : Int)) :: kvC r := rfl
    rw [e, valV_neg (fun y => h (by rw [← WdM.one_inj (show one x.1 = one c by injection y)]; exact List.mem_cons_self))]
    exact val_none c r fun z => h (List.mem_cons_of_mem _ z)
theorem abc_fresh : ∀ i : Fin 6, abcL.getD i.1 0 ∉ abcL.take i.1 := by decide
theorem words_few {ks : List Nat} (n : Nat → Nat) (nd : ks.Nodup) (hk : ks.length ≤ 3) {i : Nat} (hi : i ≤ 6) : (wordsN ks n i).length ≤ 729 := by
  have h1 := (words_ok ks n nd i).few
  have h2 : ks.length ^ i ≤ 3 ^ i := Nat.pow_le_pow_left hk i
  have h3 : 3 ^ i ≤ 3 ^ 6 := Nat.pow_le_pow_right (by decide) hi
  omega
theorem grow_take (ks : List Nat) (n : Nat → Nat) (ws : List (List Nat)) {j : Nat} {w : List Nat} (h : ws[j]? = some w) : grow ks n (ws.take (j + 1)) = grow ks n (ws.take j) ++ (ks.filter fun c => decide (w.count c < n c)).map fun c => w ++ [c] := by
  unfold grow
  rw [List.take_succ, h, List.flatMap_append]
  show _ ++ List.flatMap _ [w] = _
  rw [List.flatMap_cons, List.flatMap_nil, List.append_nil]
section
variable {P : Program} {w : World} {K : PySem.W.Frag} {mg : Str → Option Value} {base : Heap}
theorem scCO : FnScope ["_law_well_here", "_law_most", "_law_sorts", "_law_found", "_law_k"] ["_law_well_here", "_law_most", "_law_sorts"] (defScope sCO) := ⟨rfl, rfl, rfl, by decide +kernel, rfl, by decide +kernel, by decide +kernel⟩
theorem scWO : FnScope ["_law_counts_here", "_law_found", "_law_turn", "_law_longer", "_law_word", "_law_letter"] ["_law_counts_here"] (defScope sWO) := ⟨rfl, rfl, rfl, by decide +kernel, rfl, by decide +kernel, by decide +kernel⟩
theorem ok_CO {f fDR : Addr} {fd fdDR : FuncData} (F : Fun K "_law_counts" "_law_counts" sCO f fd) (T : TxtW K mg)
    (GDR : FnOk P w K mg base CX0 1 fDR fdDR ["_law_well_here", "_law_many"] spDraw) (gDR : mg "_law_draw" = some (.ref fDR)) (kDR : PySem.W.keepIn K (.ref fDR) = true) (bDR : Binds K fdDR ["_law_well_here", "_law_many"] []) :
    FnOk P w K mg base CX0 2 f fd ["_law_well_here", "_law_most", "_law_sorts"] spCO := by
  refine F.ok scCO (fun vs H Q E h => ?_) (fun cdv A outer s H vs Q E hr h => ?_)
  · obtain ⟨a, n, m, q, rfl, _⟩ := h
    rfl
  · obtain ⟨a, n, m, q, rfl, hw, hn, hm, hq, k⟩ := h
    have nd := scCO.nd
    have hz : sizeLine = 2 ^ 24 := sizeLine_eq
    have hrDR : Room 1 _ := hr
    have hu : (A.deeper (PyProof.Rows.envOfC "_law_counts" (defScope sCO) s.heap.objs.size f cdv)).units + 64 < cLine := hr.units
    have hu1 : (A.deeper (PyProof.Rows.envOfC "_law_counts" (defScope sCO) s.heap.objs.size f cdv)).units + 1 < cLine := by omega
    refine ⟨_, (pss_cons (ps_set (i := 3) nd rfl (Or.inl rfl) pe_dnewK)
      (pss_cons (ps_for PassesOwn.never rfl (pi_range1 (by rfl) T.range (pa_cons (pe_call GDR hrDR rfl gDR kDR bDR .nil pass0 (pa_cons (pv 0) (pa_cons (pe_op op_add (pv 2) pe_int) pa_nil))) pa_nil)) (pg_name (i := 4) nd rfl (Or.inl rfl)) (pss_one (ps_dput hu1 (pv 3) (pe_ix ix_str pe_str (pv 4) (fun _ _ => rfl)) (pe_call GDR hrDR rfl gDR kDR bDR .nil pass0 (pa_cons (pv 0) (pa_cons (pe_op op_add (pv 1) pe_int) pa_nil))) rfl)))
      (pss_one (ps_ret (pv 3))))), ?_⟩
    intro p hp
    obtain ⟨H1, e1, S1, A1⟩ := alloc (o := .dK []) hp
    rw [e1]
    have pa : p ≠ a := fun z => by
      obtain ⟨_, _, _, e, _⟩ := hw
      rw [z, e] at hp
      cases hp
    refine ⟨_, rfl, _, rfl, _, _, rfl, rfl, a, _, n, rfl, hw.keep (S1 a), by omega, by omega, by omega, fun d H2 h0 h2 hw2 kb2 => ?_⟩
    obtain ⟨dn, rfl⟩ : ∃ j : Nat, d = (j : Int) := ⟨d.toNat, by omega⟩
    have hdn : dn ≤ q := by omega
    refine ⟨_, rfl, by omega, by omega, ?_⟩
    refine for_range (lo := 0) (n := ((dn : Nat) : Int).toNat) (fun i σ H' => ∃ v4 : Option V, σ = [some (.ref a), some (.int (m : Int)), some (.int (q : Int)), some (.ref p), v4] ∧ WellAt H' a (n + 1 + (i : Nat)) ∧ KeepB a H H' ∧ ∃ cl, H' p = some (.dK (kvC cl)) ∧ cl.length = i ∧ keysC cl = abcL.take i ∧ ∀ x ∈ cl, x.2 ≤ m) ⟨_, rfl, hw2.mono (by omega), (KeepB.of S1).trans kb2, [], kb2 _ _ A1 pa, rfl, rfl, fun x hx => by cases hx⟩ ?_ ?_
    · rintro i σ H3 hi ⟨v4, rfl, hw3, kb3, cl, hcl, hlen, hkeys, hbd⟩
      have hi2 : i < dn := by omega
      rw [Int.zero_add]
      refine ⟨_, rfl, _, rfl, _, _, rfl, rfl, a, _, _, rfl, hw3, by omega, by omega, by omega, fun d2 H4 h02 h42 hw4 kb4 => ?_⟩
      obtain ⟨d2n, rfl⟩ : ∃ j : Nat, d2 = (j : Int) := ⟨d2.toNat, by omega⟩
      have hi6 : i < abcL.length := by show i < 6; omega
      refine ⟨_, rfl, _, rfl, strL abcL, _, abcL[i], rfl, rfl, (by rw [strL_len]; decide), (by rw [strL_list]; exact L2.atI_nat (List.getElem?_eq_getElem hi6)), ?_⟩
      have hcl4 : H4 p = some (.dK (kvC cl)) := kb4 _ _ hcl pa
      have fresh : abcL[i] ∉ keysC cl := by
        rw [hkeys]
        have e : abcL[i] = abcL.getD i 0 := by rw [List.getD_eq_getElem?_getD, List.getElem?_eq_getElem hi6]; rfl
        rw [e]
        exact abc_fresh ⟨i, hi6⟩
      have eput : putK (kvC cl) (Sum.inr (one abcL[i])) (.int (d2n : Int)) = kvC (cl ++ [(abcL[i], d2n)]) := by
        rw [putK_new _ (val_none _ cl fresh)]
        unfold kvC
        rw [List.map_append]
        rfl
      refine ⟨p, _, rfl, DPut.k (k := Sum.inr (one abcL[i])) hcl4 (by unfold kvC; rw [List.length_map]; omega), ?_⟩
      rw [eput]
      refine ⟨_, rfl, (hw4.keep fun o e => by rw [upd_ne (Ne.symm pa)]; exact e).mono (by omega), fun b o e nb => ?_, cl ++ [(abcL[i], d2n)], upd_same, by rw [List.length_append, hlen]; rfl, ?_, fun x hx => ?_⟩
      · rw [upd_ne (fun z => by rw [z, hp] at e; cases e)]
        exact kb4 _ _ (kb3 _ _ e nb) nb
      · unfold keysC at *
        rw [List.map_append, hkeys, List.take_succ, List.getElem?_eq_getElem hi6]
        rfl
      · rcases List.mem_append.mp hx with hx | hx
        · exact hbd x hx
        · rw [List.mem_singleton.mp hx]
          show d2n ≤ m
          omega
    · rintro σ H3 ⟨v4, rfl, hw3, kb3, cl, hcl, hlen, hkeys, hbd⟩
      rw [Int.toNat_natCast] at hlen hkeys
      exact ⟨_, rfl, k p cl H3 hp hcl (by omega) (by rw [hlen]; exact hkeys) hbd (hw3.mono (by omega)) kb3⟩
theorem ok_WO {f : Addr} {fd : FuncData} (F : Fun K "_law_words" "_law_words" sWO f fd) (T : TxtW K mg) : FnOk P w K mg base CX0 1 f fd ["_law_counts_here"] spWO := by
  refine F.ok scWO (fun vs H Q E h => ?_) (fun cdv A outer s H vs Q E hr h => ?_)
  · obtain ⟨c, cl, rfl, _⟩ := h
    rfl
  · obtain ⟨c, cl, rfl, hc, hinc, hlen, htot, k⟩ := h
    have nd := scWO.nd
    have hz : sizeLine = 2 ^ 24 := sizeLine_eq
    have hu : (A.deeper (PyProof.Rows.envOfC "_law_words" (defScope sWO) s.heap.objs.size f cdv)).units + 64 < cLine := hr.units
    have hu1 : (A.deeper (PyProof.Rows.envOfC "_law_words" (defScope sWO) s.heap.objs.size f cdv)).units + 1 < cLine := by omega
    have kn : (keysC cl).Nodup := hinc.imp fun {a b} h e => by rw [e] at h; exact Nat.lt_irrefl _ h
    have kl : (keysC cl).length ≤ 3 := by unfold keysC; rw [List.length_map]; exact hlen
    refine ⟨_, (pss_cons (ps_set (i := 1) nd rfl (Or.inl rfl) (pe_lst (pa_cons pe_str pa_nil)))
      (pss_cons (ps_for PassesOwn.never rfl (pi_range1 (by rfl) T.range (pa_cons (pe_callB (cr_sumV rfl) (by rfl) T.sum (by decide +kernel) (pa_cons (pe_bm0 PySem.F.plainAttrs_dict PySem.F.slot_dict_values PySem.F.type_dict_values mt_values (pv 0)) pa_nil)) pa_nil)) (pg_name (i := 2) nd rfl (Or.inl rfl)) (pss_cons (ps_set (i := 3) nd rfl (Or.inl rfl) (pe_lst pa_nil))
      (pss_cons (ps_for PassesOwn.never rfl (pi_list (pv 1)) (pg_name (i := 4) nd rfl (Or.inr rfl)) (pss_one (ps_expr (pe_bm PySem.F.plainAttrs_list PySem.F.slot_list_extend PySem.F.type_list_extend mt_extend (pv 3) (pa_cons (pe_lc (own := [("_law_letter", 5)]) (g := gName 5) rfl nd (pi_list (pe_callB (cr_sortedDk rfl) (by rfl) T.sorted (by decide +kernel) (pa_cons (pv 0) pa_nil))) (blkOk_by (N := ["_law_counts_here", "_law_found", "_law_turn", "_law_longer", "_law_word", "_law_letter"]) (sc := defScope sWO) (by decide +kernel)) (fun _ _ _ _ _ => (pg_name (i := 5) nd rfl (Or.inl rfl))) (fun _ _ _ _ _ => (pts_one (pt_cmpR op_lt (pe_m1 PySem.F.slot_str_count PySem.F.type_str_count mt_count (pv 4) (pv 5)) (pe_dget hu1 (pv 0) (pv 5) (fun _ _ => rfl)) (nomark _)))) (fun _ _ _ _ _ => (pe_op op_add_str (pv 4) (pv 5)))) pa_nil)))))
      (pss_one (ps_set (i := 1) nd rfl (Or.inl rfl) (pv 3))))))
      (pss_one (ps_ret (pv 1))))), ?_⟩
    refine ⟨(by show 1 ≤ sizeLine; omega), fun L0 z0 => ?_⟩
    obtain ⟨H1, e1, S1, A1⟩ := alloc (o := .lst (wsV [[]])) z0
    have e1' : upd H L0 (.lst [.str ""]) = H1 := e1
    rw [e1']
    refine ⟨_, rfl, .inr (.inr (.inl ⟨rfl, .inl ⟨_, S1 _ _ hc⟩⟩)), c, _, rfl, rfl, S1 _ _ hc, fun r hr => ?_⟩
    obtain ⟨H2, e2, S2, A2⟩ := alloc (o := vwO r c) hr
    rw [e2]
    refine ⟨r, c, _, _, rfl, A2, S2 _ _ (S1 _ _ hc), vals_int cl, ?_⟩
    rw [sum_int]
    refine ⟨_, rfl, by omega, by omega, ?_⟩
    refine for_range (lo := 0) (n := ((totC cl : Nat) : Int).toNat) (fun i σ H' => ∃ (v2 v3 v4 v5 : Option V) (L : Addr), σ = [some (.ref c), some (.ref L), v2, v3, v4, v5] ∧ Same H H' ∧ H' L = some (.lst (wsV (wordsN (keysC cl) (nOf cl) i)))) ⟨_, _, _, _, L0, rfl, S1.trans S2, S2 _ _ A1⟩ ?_ ?_
    · rintro i σ H3 hi ⟨v2, v3, v4, v5, L, rfl, s3, hL⟩
      rw [Int.toNat_natCast] at hi
      rw [Int.zero_add]
      obtain ⟨ws, hws⟩ : ∃ ws, wordsN (keysC cl) (nOf cl) i = ws := ⟨_, rfl⟩
      have wf : ws.length ≤ 729 := by rw [← hws]; exact words_few _ kn kl (by omega)
      have wlen : ∀ v ∈ ws, v.length = i := by rw [← hws]; exact (words_ok _ _ kn i).len
      rw [hws] at hL
      refine ⟨(by show 0 ≤ sizeLine; omega), fun M zM => ?_⟩
      obtain ⟨H4, e4, S4, A4⟩ := alloc (o := .lst (wsV [])) zM
      have e4' : upd H3 M (.lst []) = H4 := e4
      rw [e4']
      have LM : L ≠ M := fun z => by rw [z, zM] at hL; cases hL
      have cM : c ≠ M := fun z => by rw [z] at hc; rw [s3 _ _ hc] at zM; cases zM
      refine ⟨_, rfl, L, rfl, ⟨_, .of (S4 _ _ hL)⟩, for_list (K := K) (a := L) (xs := wsV ws) (fun j σ H' => ∃ v4 v5 : Option V, σ = [some (.ref c), some (.ref L), some (.int (i : Int)), some (.ref M), v4, v5] ∧ KeepB M H4 H' ∧ H' M = some (.lst (wsV (grow (keysC cl) (nOf cl) (ws.take j))))) ⟨_, _, rfl, fun _ _ e _ => e, A4⟩ (fun j σ H' _ ⟨_, _, _, kb, _⟩ => .of (kb _ _ (S4 _ _ hL) LM)) ?_ ?_⟩
      · rintro j y σ H5 hj ⟨v4, v5, rfl, kb5, hM⟩
        unfold wsV at hj
        rw [List.getElem?_map] at hj
        obtain ⟨w, hw, rfl⟩ := Option.map_eq_some_iff.mp hj
        have wl := wlen w (List.mem_of_getElem? hw)
        have hc5 : H5 c = some (.dK (kvC cl)) := kb5 _ _ (S4 _ _ (s3 _ _ hc)) cM
        refine ⟨_, rfl, .inl ⟨rfl, _, .of hM⟩, ?_⟩
        refine ⟨_, rfl, c, _, _, rfl, hc5, keys_str cl, (by rw [List.length_map]; omega), fun ys p perm srt zp => ?_⟩
        have ey := sort_signs perm srt (.refl _) (hinc.imp fun {a b} h => Nat.le_of_lt h)
        subst ey
        obtain ⟨H6, e6, S6, A6⟩ := alloc (o := .lst (((keysC cl).map one).map V.str)) zp
        rw [e6]
        refine ⟨p, rfl, ⟨_, .of A6⟩, fun D hD => ?_⟩
        refine lcM_list (K := K) (a := p) (xs := ((keysC cl).map one).map V.str) (zs := keysC cl) (R := fun _ x z => x = V.str (one z)) (R' := fun _ x z => x = V.str (strL z)) (fun x => decide (w.count x < nOf cl x)) (fun x => w ++ [x]) hD (.of A6) (by rw [List.map_map]; exact All2.of_map (f := fun z => V.str (one z)) (keysC cl)) (fun _ _ _ _ _ r => r) (fun _ _ _ _ _ r => r) (by omega) ?_ ?_
        · intro j2 x z G C C0 hz2 s rx yes no
          have rx : x = V.str (one z) := rx
          subst rx
          have hzk := List.mem_of_getElem? hz2
          have dg := DGet.k (k := Sum.inr (one z)) (s _ _ (S6 _ _ hc5))
          rw [valC z cl hzk] at dg
          refine ⟨rfl, ?_⟩
          refine ⟨_, rfl, ⟨_, rfl⟩, _, rfl, _, _, rfl, rfl, ?_⟩
          rw [show one z = ⟨#[z]⟩ from rfl, count_sgn]
          refine ⟨_, rfl, _, rfl, c, _, rfl, dg, _, _, rfl, rfl, _, rfl, ?_⟩
          by_cases hlt : w.count z < nOf cl z
          · refine iteY (decide_eq_true (by omega)) ?_
            refine ⟨_, rfl, _, rfl, _, _, rfl, rfl, (by rw [strL_len, hz]; show _ + 1 ≤ _; omega), ?_⟩
            rw [show (⟨#[z]⟩ : Str) = strL [z] from rfl, strL_add]
            exact yes (decide_eq_true hlt) _ _ (fun _ _ q => q) rfl
          · refine iteN (decide_eq_false (by omega)) ?_
            exact no (decide_eq_false hlt) _ fun _ _ q => q
        · intro ys H7 s7 hD7 hall7
          have ey := hall7.eq_map
          have toH7 : ∀ b o, H5 b = some o → H7 b = some o := fun b o e => s7 _ _ (S6 _ _ e)
          have gl : (grow (keysC cl) (nOf cl) (ws.take j)).length ≤ 729 * 3 := by
            have h1 := grow_len (keysC cl) (nOf cl) (ws.take j)
            have h2 : (ws.take j).length ≤ 729 := Nat.le_trans (by rw [List.length_take]; exact Nat.min_le_right _ _) wf
            exact Nat.le_trans h1 (Nat.mul_le_mul h2 kl)
          have fl := List.length_filter_le (fun x => decide (w.count x < nOf cl x)) (keysC cl)
          have eq2 : wsV (grow (keysC cl) (nOf cl) (ws.take j)) ++ ys = wsV (grow (keysC cl) (nOf cl) (ws.take (j + 1))) := by
            rw [grow_take _ _ _ hw, ey]
            unfold wsV
            rw [List.map_append]
          refine ⟨M, D, _, _, rfl, rfl, toH7 _ _ hM, hD7, ?_, ?_⟩
          · unfold wsV
            rw [List.length_map, ey, List.length_map, List.length_map, hz]
            omega
          · rw [eq2]
            refine ⟨_, _, rfl, fun b o e nb => ?_, upd_same⟩
            rw [upd_ne nb]
            exact toH7 _ _ (kb5 _ _ e nb)
      · rintro σ H5 ⟨v4, v5, rfl, kb5, hM⟩
        have wl2 : (wsV ws).length = ws.length := List.length_map ..
        rw [wl2, List.take_length] at hM
        refine ⟨_, rfl, ?_⟩
        refine ⟨_, _, _, _, M, rfl, fun b o e => kb5 _ _ (S4 _ _ (s3 _ _ e)) (fun z => by rw [z] at e; rw [s3 _ _ e] at zM; cases zM), ?_⟩
        show H5 M = some (.lst (wsV (grow (keysC cl) (nOf cl) (wordsN (keysC cl) (nOf cl) i))))
        rw [hws]
        exact hM
    · rintro σ H3 ⟨v2, v3, v4, v5, L, rfl, s3, hL⟩
      rw [Int.toNat_natCast] at hL
      exact ⟨_, rfl, k L H3 s3 hL⟩
end
end T12

set_option Elab.async false
set_option linter.all false
set_option maxRecDepth 100000
set_option maxHeartbeats 4000000
namespace T12
open PySem PySem.Spec PyProof.Rows L2 EK BwL WdM
abbrev sLaw : Stmt := top 23
structure TxtL (K : PySem.W.Frag) (mg : Str → Option Value) : Prop where
  range : mg "range" = none
  sum : mg "sum" = none
  sorted : mg "sorted" = none
  len : mg "len" = none
  set : mg "set" = none
theorem pe_joinK {X : Cx} {K : PySem.W.Frag} {o e : Expr} {to te : TE} {apos pos : Pos} (h1 : PE X o to) (h2 : PE X e te) (hK : X.K = K := by rfl) (h3 : starEach [e] X.env = [(false, eval e X.env)] := by rfl)
    (h4 : attributeBase o (Str.ofString "join") X.env (eval o X.env) = eval o X.env := by rfl) (h5 : (apos.endLine == pos.line) = true := by rfl) :
    PE X ((o.Attribute (Str.ofString "join") apos).Call [e] [] pos) (tM1 (fun x xs H Q => ∃ a p ys, x = V.str a ∧ xs = [V.ref p] ∧ (SqL K H p (List.map V.str ys) ∨ SqT K H p (List.map V.str ys)) ∧ (List.map (fun x => x.length) ys).sum + ys.length * a.length ≤ 16777216 ∧ Q (V.str (Txt.join a ys)) H) to te) := by
  subst hK
  exact pe_join h1 h2 h3 h4 h5
theorem cut_ints (ns : List Int) (lo hi : Option Int) : ∃ ms : List Int, cutV (ns.map V.int) lo hi = ms.map V.int ∧ ms.length ≤ ns.length := by
  have h := cutV_length (ns.map V.int) lo hi
  have e : ∃ ms : List Int, cutV (ns.map V.int) lo hi = ms.map V.int := by
    unfold cutV
    rw [← List.map_drop, ← List.map_take]
    exact ⟨_, rfl⟩
  obtain ⟨ms, e⟩ := e
  rw [e, List.length_map, List.length_map] at h
  exact ⟨ms, e, h⟩
theorem ints_at {ns : List Int} {i : Nat} {x : V} (h : (ns.map V.int)[i]? = some x) : ∃ n, ns[i]? = some n ∧ x = .int n := by
  rw [List.getElem?_map] at h
  obtain ⟨n, hn, e⟩ := Option.map_eq_some_iff.mp h
  exact ⟨n, hn, e.symm⟩
def spLaw (K : PySem.W.Frag) : Sp := fun vs H Q _ => ∃ (a : Addr) (ns : List Int), vs = [.ref a] ∧ SqL K H a (ns.map V.int) ∧ ns.length ≤ 63 ∧ ∀ H', Q (.bl true) H'
noncomputable def lo (ts : List (List Nat)) : List Pt := Classical.choose (ex_lord ts)
theorem lo_ok (ts : List (List Nat)) : LOrd ts (lo ts) := Classical.choose_spec (ex_lord ts)
noncomputable def rowOf (ts : List (List Nat)) : List Nat := BwL.rowL ts (lo ts)
/-- a word of a, b, c -/
def Abc (w : List Nat) : Prop := w.length ≤ 6 ∧ ∀ c ∈ w, c = 97 ∨ c = 98 ∨ c = 99
theorem abc_isT {w : List Nat} (h : Abc w) : isT (strL w) = true := by
  unfold isT
  rw [strL_list, List.all_eq_true]
  intro c hc
  rcases h.2 c hc with rfl | rfl | rfl <;> decide +kernel
theorem abc_big {ts : List (List Nat)} (h : ∀ t ∈ ts, Abc t) : ∀ t ∈ ts, ∀ c ∈ t, 36 < c := fun t ht c hc => by
  rcases (h t ht).2 c hc with rfl | rfl | rfl <;> decide
theorem abc_good {ts : List (List Nat)} (n : ts.length ≤ 400) (h : ∀ t ∈ ts, Abc t) : Good ts := ⟨n, fun t ht => by have := (h t ht).1; omega, fun t ht => abc_isT (h t ht)⟩
theorem row_inj {ts us : List (List Nat)} (h : ∀ t ∈ ts, Abc t) (g : ∀ t ∈ us, Abc t) (n : ts.length = us.length) (e : rowOf ts = rowOf us) : ts = us := row_tells (abc_big h) (abc_big g) (lo_ok ts) (lo_ok us) e n
theorem row_perm1 (w : List Nat) : (rowOf [w]).Perm (36 :: w) := by
  have p := (items_perm (lo_ok [w])).symm.map (BwL.sg [w])
  refine List.Perm.trans p ?_
  have e : (items [w]).map (BwL.sg [w]) = 36 :: w := by
    unfold items
    show ((List.range 1).flatMap _).map _ = _
    rw [show List.range 1 = [0] from rfl, List.flatMap_cons, List.flatMap_nil, List.append_nil, List.map_map]
    refine List.ext_getElem? fun i => ?_
    rw [List.getElem?_map]
    by_cases h : i < w.length + 1
    · show Option.map _ (List.range (w.length + 1))[i]? = _
      rw [List.getElem?_range h, List.getElem?_eq_getElem (show i < (36 :: w).length from h)]
      show some ((36 :: w).getD i 0) = _
      rw [List.getD_eq_getElem?_getD, List.getElem?_eq_getElem (show i < (36 :: w).length from h)]
      rfl
    · rw [List.getElem?_eq_none (by rw [List.length_range]; exact Nat.not_lt.mp h), List.getElem?_eq_none (by rw [List.length_cons]; omega)]
      rfl
  rw [e]
def pairsM (ws : List (List Nat)) : List (List (List Nat)) := ws.flatMap fun w => (List.range (w.length + 1)).map fun k => [w.take k, w.drop k]
theorem pairs_mem {ws : List (List Nat)} {ts : List (List Nat)} (h : ts ∈ pairsM ws) : ∃ w ∈ ws, ∃ k, k ≤ w.length ∧ ts = [w.take k, w.drop k] := by
  obtain ⟨w, hw, h⟩ := List.mem_flatMap.mp h
  obtain ⟨k, hk, rfl⟩ := List.mem_map.mp h
  exact ⟨w, hw, k, by have := List.mem_range.mp hk; omega, rfl⟩
theorem pairs_nodup {ws : List (List Nat)} (nd : ws.Nodup) : (pairsM ws).Nodup := by
  refine List.pairwise_flatMap.mpr ⟨fun w _ => ?_, ?_⟩
  · refine List.pairwise_map.mpr (List.Pairwise.imp_of_mem (fun {a b} ha hb ne e => ne ?_) List.nodup_range)
    injection e with e _
    have := congrArg List.length e
    have h1 := List.mem_range.mp ha
    have h2 := List.mem_range.mp hb
    rw [List.length_take, List.length_take] at this
    omega
  · refine nd.imp fun {a b} ne x hx y hy e => ne ?_
    obtain ⟨k, _, rfl⟩ := List.mem_map.mp hx
    obtain ⟨m, _, rfl⟩ := List.mem_map.mp hy
    injection e with e1 e2
    injection e2 with e2 _
    rw [← List.take_append_drop k a, e1, e2, List.take_append_drop]
theorem pairs_take (ws : List (List Nat)) {j : Nat} {w : List Nat} (h : ws[j]? = some w) : pairsM (ws.take (j + 1)) = pairsM (ws.take j) ++ (List.range (w.length + 1)).map fun k => [w.take k, w.drop k] := by
  unfold pairsM
  rw [List.take_succ, h, List.flatMap_append]
  show _ ++ List.flatMap _ [w] = _
  rw [List.flatMap_cons, List.flatMap_nil, List.append_nil]
theorem pairs_few : ∀ {ws : List (List Nat)}, (∀ w ∈ ws, w.length ≤ 6) → (pairsM ws).length ≤ ws.length * 7
  | [], _ => by simp [pairsM]
  | w :: ws, h => by
    have ih := pairs_few (ws := ws) fun v hv => h v (List.mem_cons_of_mem _ hv)
    have e : pairsM (w :: ws) = (List.range (w.length + 1)).map (fun k => [w.take k, w.drop k]) ++ pairsM ws := rfl
    have := h w List.mem_cons_self
    rw [e, List.length_append, List.length_map, List.length_range, List.length_cons]
    omega
def PairAt (H : Hp) (x : V) (ts : List (List Nat)) : Prop := ∃ a, x = .ref a ∧ H a = some (.tup (wsV ts))
theorem PairAt.keep {H H' : Hp} {x : V} {ts : List (List Nat)} (h : PairAt H x ts) (s : Same H H') : PairAt H' x ts := by
  obtain ⟨a, e, h⟩ := h
  exact ⟨a, e, s _ _ h⟩
theorem PairAt.keepL {H H' : Hp} {x : V} {ts : List (List Nat)} (h : PairAt H x ts) (s : KeepL H H') : PairAt H' x ts := by
  obtain ⟨a, e, h⟩ := h
  exact ⟨a, e, s _ _ h fun _ z => by cases z⟩
theorem PairAt.put {M : Addr} {H : Hp} {xs ys : List V} {x : V} {ts : List (List Nat)} (h : PairAt H x ts) (hM : H M = some (.lst xs)) : PairAt (upd H M (.lst ys)) x ts := by
  obtain ⟨a, e, h⟩ := h
  exact ⟨a, e, by rw [upd_ne (fun z => by rw [z, hM] at h; cases h)]; exact h⟩
/-- the counts that the law may have -/
theorem cl_ok {cl : List (Nat × Nat)} (h1 : cl.length ≤ 2) (h2 : keysC cl = abcL.take cl.length) : keysC cl = [] ∨ keysC cl = [97] ∨ keysC cl = [97, 98] := by
  rw [h2]
  have : cl.length = 0 ∨ cl.length = 1 ∨ cl.length = 2 := by omega
  rcases this with e | e | e <;> rw [e]
  · exact .inl rfl
  · exact .inr (.inl rfl)
  · exact .inr (.inr rfl)
theorem tot_le : ∀ cl : List (Nat × Nat), (∀ x ∈ cl, x.2 ≤ 3) → totC cl ≤ cl.length * 3
  | [], _ => Nat.le_refl _
  | x :: r, h => by
    have ih := tot_le r fun y hy => h y (List.mem_cons_of_mem _ hy)
    have hx := h x List.mem_cons_self
    have e : totC (x :: r) = x.2 + totC r := rfl
    rw [e, List.length_cons]
    omega
theorem tot_snoc (cl : List (Nat × Nat)) (x : Nat × Nat) : totC (cl ++ [x]) = totC cl + x.2 := by
  unfold totC
  rw [List.map_append, List.sum_append]
  rfl
/-- what holds of the counts when the words are made -/
structure CkC (cl : List (Nat × Nat)) : Prop where
  inc : (keysC cl).Pairwise (· < ·)
  len : cl.length ≤ 3
  tot : totC cl ≤ 6
  abc : ∀ c ∈ keysC cl, c = 97 ∨ c = 98 ∨ c = 99
  alt : cl.length ≤ 2 ∨ totC cl ≤ 5
theorem ck_same {cl : List (Nat × Nat)} (h1 : cl.length ≤ 2) (h2 : keysC cl = abcL.take cl.length) (h3 : ∀ x ∈ cl, x.2 ≤ 3) : CkC cl := by
  have ht := tot_le cl h3
  refine ⟨?_, by omega, by omega, fun c hc => ?_, .inl h1⟩
  · rcases cl_ok h1 h2 with e | e | e <;> rw [e] <;> decide
  · rcases cl_ok h1 h2 with e | e | e <;> rw [e] at hc <;> simp at hc <;> omega
theorem ck_more {cl : List (Nat × Nat)} {d : Nat} (h1 : cl.length ≤ 2) (h2 : keysC cl = abcL.take cl.length) (h4 : totC cl < 4) (hd : d < 3) : CkC (cl ++ [(99, d)]) := by
  have ek : keysC (cl ++ [(99, d)]) = keysC cl ++ [99] := by unfold keysC; rw [List.map_append]; rfl
  refine ⟨?_, by rw [List.length_append]; show cl.length + 1 ≤ 3; omega, by rw [tot_snoc]; show totC cl + d ≤ 6; omega, fun c hc => ?_, .inr (by rw [tot_snoc]; show totC cl + d ≤ 5; omega)⟩
  · rw [ek]
    rcases cl_ok h1 h2 with e | e | e <;> rw [e] <;> decide
  · rw [ek] at hc
    rcases cl_ok h1 h2 with e | e | e <;> rw [e] at hc <;> simp at hc <;> omega
theorem flat_one (c : Nat) : ∀ k : Nat, (List.replicate k [c]).flatten = List.replicate k c
  | 0 => rfl
  | k + 1 => by rw [List.replicate_succ, List.flatten_cons, flat_one c k, List.replicate_succ]; rfl
theorem repB (c k : Nat) : repS (strL [c]) k = strL (List.replicate k c) := by rw [repL, flat_one]
theorem le_sum : ∀ {l : List Nat} {x : Nat}, x ∈ l → x ≤ l.sum
  | [], x, h => by cases h
  | y :: r, x, h => by
    rw [List.sum_cons]
    rcases List.mem_cons.mp h with e | h
    · omega
    · have := le_sum h
      omega
theorem whole_len (n : Nat → Nat) : ∀ ks : List Nat, (whole ks n).length = (ks.map n).sum
  | [] => rfl
  | a :: r => by
    have e : whole (a :: r) n = List.replicate (n a) a ++ whole r n := rfl
    rw [e, List.length_append, List.length_replicate, whole_len n r]
    rfl
theorem whole_mem {n : Nat → Nat} {ks : List Nat} {c : Nat} (h : c ∈ whole ks n) : c ∈ ks := by
  obtain ⟨d, hd, h⟩ := List.mem_flatMap.mp h
  rw [(List.mem_replicate.mp h).2]
  exact hd

theorem ones_map (D : List Nat) : D.map one = (D.map fun c => [c]).map strL := by
  rw [List.map_map]
  rfl
section
variable {P : Program} {w : World} {K : PySem.W.Frag} {mg : Str → Option Value} {base : Heap}
theorem scLaw : FnScope ["_law_script", "_law_cell", "_law_well_here", "_law_counts_here", "_law_words_here", "_law_due", "_law_word", "_law_found", "_law_pairs", "_law_letter", "_law_row", "_law_k", "_law_pair"] ["_law_script"] (defScope sLaw) := ⟨rfl, rfl, rfl, by decide +kernel, rfl, by decide +kernel, by decide +kernel⟩
theorem ok_law {f fW fDR fCO fWO fRO fRL : Addr} {fd fdW fdDR fdCO fdWO fdRO fdRL : FuncData} (F : Fun K "law" "law" sLaw f fd) (T : TxtL K mg)
    (GW : FnOk P w K mg base CX0 1 fW fdW ["_law_cell"] spWell) (gW : mg "_law_well" = some (.ref fW)) (kW : PySem.W.keepIn K (.ref fW) = true) (bW : Binds K fdW ["_law_cell"] [])
    (GDR : FnOk P w K mg base CX0 1 fDR fdDR ["_law_well_here", "_law_many"] spDraw) (gDR : mg "_law_draw" = some (.ref fDR)) (kDR : PySem.W.keepIn K (.ref fDR) = true) (bDR : Binds K fdDR ["_law_well_here", "_law_many"] [])
    (GCO : FnOk P w K mg base CX0 2 fCO fdCO ["_law_well_here", "_law_most", "_law_sorts"] spCO) (gCO : mg "_law_counts" = some (.ref fCO)) (kCO : PySem.W.keepIn K (.ref fCO) = true) (bCO : Binds K fdCO ["_law_well_here", "_law_most", "_law_sorts"] [])
    (GWO : FnOk P w K mg base CX0 1 fWO fdWO ["_law_counts_here"] spWO) (gWO : mg "_law_words" = some (.ref fWO)) (kWO : PySem.W.keepIn K (.ref fWO) = true) (bWO : Binds K fdWO ["_law_counts_here"] [])
    (GRO : FnOk P w K mg base CX0 3 fRO fdRO ["text"] spRO) (gRO : mg "row_of" = some (.ref fRO)) (kRO : PySem.W.keepIn K (.ref fRO) = true) (bRO : Binds K fdRO ["text"] [])
    (GRL : FnOk P w K mg base CX0 4 fRL fdRL ["texts"] spRL) (gRL : mg "row_of_list" = some (.ref fRL)) (kRL : PySem.W.keepIn K (.ref fRL) = true) (bRL : Binds K fdRL ["texts"] []) :
    FnOk P w K mg base CX0 5 f fd ["_law_script"] (spLaw K) := by
  refine F.ok scLaw (fun vs H Q E h => ?_) (fun cdv A outer s H vs Q E hr h => ?_)
  · obtain ⟨a, ns, rfl, _⟩ := h
    rfl
  · obtain ⟨a, ns, rfl, hS, hlen, k⟩ := h
    have nd := scLaw.nd
    have hz : sizeLine = 2 ^ 24 := sizeLine_eq
    have hrRL : Room 4 _ := hr
    have hrRO : Room 3 _ := hr.mono (by decide)
    have hrCO : Room 2 _ := hr.mono (by decide)
    have hrW : Room 1 _ := hr.mono (by decide)
    have hrDR : Room 1 _ := hr.mono (by decide)
    have hrWO : Room 1 _ := hr.mono (by decide)
    have hu : (A.deeper (PyProof.Rows.envOfC "law" (defScope sLaw) s.heap.objs.size f cdv)).units + 64 < cLine := hr.units
    have hu1 : (A.deeper (PyProof.Rows.envOfC "law" (defScope sLaw) s.heap.objs.size f cdv)).units + 1 < cLine := by omega
    refine ⟨_, (pss_cons (ps_for PassesOwn.never rfl (pi_list (pe_op op_cat (pe_slice sl_list (pv 0) po_none (po_some pe_int)) (pe_lst (pa_cons pe_int pa_nil)))) (pg_name (i := 1) nd rfl (Or.inl rfl)) (pss_cons (ps_set (i := 2) nd rfl (Or.inl rfl) (pe_call GW hrW rfl gW kW bW .nil pass0 (pa_cons (pv 1) pa_nil)))
      (pss_cons (ps_set (i := 3) nd rfl (Or.inr rfl) (pe_call GCO hrCO rfl gCO kCO bCO .nil pass0 (pa_cons (pv 2) (pa_cons pe_int (pa_cons pe_int pa_nil)))))
      (pss_cons (ps_if (pt_cmpR op_lt (pe_callB (cr_sumV rfl) (by rfl) T.sum (by decide +kernel) (pa_cons (pe_bm0 PySem.F.plainAttrs_dict PySem.F.slot_dict_values PySem.F.type_dict_values mt_values (pv 3)) pa_nil)) pe_int (nomark _)) (pss_one (ps_dput hu1 (pv 3) pe_str (pe_call GDR hrDR rfl gDR kDR bDR .nil pass0 (pa_cons (pv 2) (pa_cons pe_int pa_nil))) rfl)) pss_nil)
      (pss_cons (ps_set (i := 4) nd rfl (Or.inl rfl) (pe_call GWO hrWO rfl gWO kWO bWO .nil pass0 (pa_cons (pv 3) pa_nil)))
      (pss_cons (ps_set (i := 5) nd rfl (Or.inr rfl) (pe_op op_add_str pe_str (pe_join pe_str (pe_lc (own := [("_law_letter", 9)]) (g := gName 9) (tt := tYes) rfl nd (pi_list (pe_callB (cr_sortedDk rfl) (by rfl) T.sorted (by decide +kernel) (pa_cons (pv 3) pa_nil))) (blkOk_by (N := ["_law_script", "_law_cell", "_law_well_here", "_law_counts_here", "_law_words_here", "_law_due", "_law_word", "_law_found", "_law_pairs", "_law_letter", "_law_row", "_law_k", "_law_pair"]) (sc := defScope sLaw) (by decide +kernel)) (fun _ _ _ _ _ => (pg_name (i := 9) nd rfl (Or.inl rfl))) (fun _ _ _ _ _ => pts_nil) (fun _ _ _ _ _ => (pe_op op_mulS (pv 9) (pe_dget hu1 (pv 3) (pv 9) (fun _ _ => rfl))))))))
      (pss_cons (ps_setLc (i := 7) (own := [("_law_word", 6)]) (g := gName 6) (tt := tYes) rfl nd rfl rfl (sw_true rfl rfl rfl (by decide +kernel)) (pi_list (pv 4)) (blkOk_by (N := ["_law_script", "_law_cell", "_law_well_here", "_law_counts_here", "_law_words_here", "_law_due", "_law_word", "_law_found", "_law_pairs", "_law_letter", "_law_row", "_law_k", "_law_pair"]) (sc := defScope sLaw) (by decide +kernel)) (fun _ _ _ _ _ => (pg_name (i := 6) nd rfl (Or.inl rfl))) (fun _ _ _ _ _ => pts_nil) (fun _ _ _ _ _ => (pe_call GRO hrRO rfl gRO kRO bRO .nil pass0 (pa_cons (pv 6) pa_nil))))
      (pss_cons (ps_if (PW.pt (pw_or (pt_cmpR op_ne (pe_lenSetL (by rfl) (by rfl) T.len (by rfl) T.set (pv 7)) (pe_callB call_len_seq (by rfl) T.len (by decide +kernel) (pa_cons (pv 4) pa_nil)) (nomark _)) (pw_or1 (pt_cmpR (op_neS hu) (pe_lc (own := [("_law_row", 10)]) (g := gName 10) rfl nd (pi_list (pv 7)) (blkOk_by (N := ["_law_script", "_law_cell", "_law_well_here", "_law_counts_here", "_law_words_here", "_law_due", "_law_word", "_law_found", "_law_pairs", "_law_letter", "_law_row", "_law_k", "_law_pair"]) (sc := defScope sLaw) (by decide +kernel)) (fun _ _ _ _ _ => (pg_name (i := 10) nd rfl (Or.inl rfl))) (fun _ _ _ _ _ => (pts_one (pt_cmpR op_ne (pe_joinK (K := K) pe_str (pe_callB (cr_sortedStr rfl) (by rfl) T.sorted (by decide +kernel) (pa_cons (pv 10) pa_nil))) (pv 5) (nomark _)))) (fun _ _ _ _ _ => pe_int)) (pe_lst pa_nil) (nomark _))))) (pss_one (ps_ret pe_bl)) pss_nil)
      (pss_cons (ps_set (i := 8) nd rfl (Or.inl rfl) (pe_lst pa_nil))
      (pss_cons (ps_for PassesOwn.never rfl (pi_list (pv 4)) (pg_name (i := 6) nd rfl (Or.inr rfl)) (pss_one (ps_expr (pe_bm PySem.F.plainAttrs_list PySem.F.slot_list_extend PySem.F.type_list_extend mt_extend (pv 8) (pa_cons (pe_lc (own := [("_law_k", 11)]) (g := gName 11) (tt := tYes) rfl nd (pi_range1 (by rfl) T.range (pa_cons (pe_op op_add (pe_callB call_len_str (by rfl) T.len (by decide +kernel) (pa_cons (pv 6) pa_nil)) pe_int) pa_nil)) (blkOk_by (N := ["_law_script", "_law_cell", "_law_well_here", "_law_counts_here", "_law_words_here", "_law_due", "_law_word", "_law_found", "_law_pairs", "_law_letter", "_law_row", "_law_k", "_law_pair"]) (sc := defScope sLaw) (by decide +kernel)) (fun _ _ _ _ _ => (pg_name (i := 11) nd rfl (Or.inl rfl))) (fun _ _ _ _ _ => pts_nil) (fun _ _ _ _ _ => (pe_tup (pa_cons (pe_slice sl_str (pv 6) po_none (po_some (pv 11))) (pa_cons (pe_slice sl_str (pv 6) (po_some (pv 11)) po_none) pa_nil))))) pa_nil)))))
      (pss_one (ps_if (pt_cmpR op_ne (pe_lenSetL (by rfl) (by rfl) T.len (by rfl) T.set (pe_lc (own := [("_law_pair", 12)]) (g := gName 12) (tt := tYes) rfl nd (pi_list (pv 8)) (blkOk_by (N := ["_law_script", "_law_cell", "_law_well_here", "_law_counts_here", "_law_words_here", "_law_due", "_law_word", "_law_found", "_law_pairs", "_law_letter", "_law_row", "_law_k", "_law_pair"]) (sc := defScope sLaw) (by decide +kernel)) (fun _ _ _ _ _ => (pg_name (i := 12) nd rfl (Or.inl rfl))) (fun _ _ _ _ _ => pts_nil) (fun _ _ _ _ _ => (pe_call GRL hrRL rfl gRL kRL bRL .nil pass0 (pa_cons (pv 12) pa_nil))))) (pe_callB call_len_seq (by rfl) T.len (by decide +kernel) (pa_cons (pv 8) pa_nil)) (nomark _)) (pss_one (ps_ret pe_bl)) pss_nil))))))))))))
      (pss_one (ps_ret pe_bl))), ?_⟩
    have neq : ∀ v : V, (!decide (v = v)) = false := fun v => by rw [decide_eq_true rfl]; rfl
    obtain ⟨ms, hms, hml⟩ := cut_ints ns none (some 6)
    refine ⟨_, rfl, _, rfl, a, _, rfl, hS, fun p0 z0 => ?_⟩
    rw [hms]
    obtain ⟨K1, e1, S1, A1⟩ := alloc (o := .lst (ms.map V.int)) z0
    rw [e1]
    refine ⟨(by show 1 ≤ sizeLine; decide), fun p1' z1' => ?_⟩
    obtain ⟨K2, e2, S2, A2⟩ := alloc (o := .lst [.int 0]) z1'
    rw [e2]
    refine ⟨p0, p1', _, _, rfl, rfl, S2 _ _ A1, A2, ?_, fun p2' z2' => ?_⟩
    · rw [List.length_map]
      exact Nat.le_trans (Nat.add_le_add_right (Nat.le_trans hml hlen) 1) (by show 64 ≤ sizeLine; decide)
    have em : ms.map V.int ++ [V.int 0] = (ms ++ [0]).map V.int := by rw [List.map_append]; rfl
    rw [em]
    obtain ⟨K3, e3, S3, A3⟩ := alloc (o := .lst ((ms ++ [0]).map V.int)) z2'
    rw [e3]
    refine ⟨p2', rfl, ⟨_, .of A3⟩, for_list (K := K) (a := p2') (xs := (ms ++ [0]).map V.int) (fun i σ H' => ∃ v1 v2 v3 v4 v5 v6 v7 v8 v9 v10 v11 v12 : Option V, σ = [some (.ref a), v1, v2, v3, v4, v5, v6, v7, v8, v9, v10, v11, v12] ∧ Same K3 H') ⟨_, _, _, _, _, _, _, _, _, _, _, _, rfl, .refl _⟩ (fun i σ H' _ ⟨_, _, _, _, _, _, _, _, _, _, _, _, _, s⟩ => .of (s _ _ A3)) ?_ ?_⟩
    · rintro i y σ H4 hi ⟨v1, v2, v3, v4, v5, v6, v7, v8, v9, v10, v11, v12, rfl, s4⟩
      obtain ⟨z, _, rfl⟩ := ints_at hi
      refine ⟨_, rfl, z, rfl, fun wl H5 nwl hw sw => ?_⟩
      have newW : ∀ {b o}, H4 b = some o → b ≠ wl := fun e => ne_of_none e nwl
      refine ⟨_, rfl, wl, 0, 3, 2, rfl, hw, by decide, by decide, by decide, fun cd cl0 H6 ncd hcd cl1 cl2 cl3 hw6 kb6 => ?_⟩
      have newC : ∀ {b o}, H5 b = some o → b ≠ cd := fun e => ne_of_none e ncd
      have cdw : cd ≠ wl := fun e => by
        obtain ⟨_, _, _, e2, _⟩ := hw
        rw [e, e2] at ncd
        cases ncd
      refine ⟨_, rfl, .inr (.inr (.inl ⟨rfl, .inl ⟨_, hcd⟩⟩)), cd, _, rfl, rfl, hcd, fun r hr' => ?_⟩
      obtain ⟨H7, e7, S7, A7⟩ := alloc (o := vwO r cd) hr'
      rw [e7]
      refine ⟨r, cd, _, _, rfl, A7, S7 _ _ hcd, vals_int cl0, ?_⟩
      rw [sum_int]
      refine ⟨_, _, rfl, rfl, _, rfl, ?_⟩
      have hw7 := hw6.keep (S7 wl)
      by_cases h4 : totC cl0 < 4
      refine iteY (decide_eq_true (by omega)) ?_
      refine ⟨_, rfl, wl, 3, _, rfl, hw7, by decide, by decide, by decide, fun d H8 h08 h8 hw8 kb8 => ?_⟩
      obtain ⟨dn, rfl⟩ : ∃ j : Nat, d = (j : Int) := ⟨d.toNat, by omega⟩
      have n99 : 99 ∉ keysC cl0 := by
        rcases cl_ok cl1 cl2 with e | e | e <;> rw [e] <;> decide
      have eput : putK (kvC cl0) (Sum.inr (one 99)) (.int (dn : Int)) = kvC (cl0 ++ [(99, dn)]) := by
        rw [putK_new _ (val_none _ cl0 n99)]
        unfold kvC
        rw [List.map_append]
        rfl
      refine ⟨_, rfl, cd, _, rfl, DPut.k (k := Sum.inr (one 99)) (kb8 _ _ (S7 _ _ hcd) cdw) (by unfold kvC; rw [List.length_map]; omega), ?_⟩
      rw [eput]
      have ck := ck_more cl1 cl2 h4 (show dn < 3 by omega)
      obtain ⟨cl, ecl⟩ : ∃ cl, cl0 ++ [(99, dn)] = cl := ⟨_, rfl⟩
      rw [ecl] at ck ⊢
      obtain ⟨G, eG, hG, kG⟩ : ∃ G, upd H8 cd (.dK (kvC cl)) = G ∧ G cd = some (.dK (kvC cl)) ∧ ∀ b o, H4 b = some o → G b = some o := ⟨_, rfl, upd_same, fun b o e => by
        rw [upd_ne (newC (sw _ _ e))]
        exact kb8 _ _ (S7 _ _ (kb6 _ _ (sw _ _ e) (newW e))) (newW e)⟩
      rw [eG]
      clear eG ecl eput
      rotate_left 1
      refine iteN (decide_eq_false (by omega)) ?_
      have ck := ck_same cl1 cl2 cl3
      obtain ⟨cl, ecl⟩ : ∃ cl, cl0 = cl := ⟨_, rfl⟩
      rw [ecl] at ck
      obtain ⟨G, eG, hG, kG⟩ : ∃ G, H7 = G ∧ G cd = some (.dK (kvC cl)) ∧ ∀ b o, H4 b = some o → G b = some o := ⟨_, rfl, by rw [← ecl]; exact S7 _ _ hcd, fun b o e => S7 _ _ (kb6 _ _ (sw _ _ e) (newW e))⟩
      rw [eG]
      clear eG ecl
      all_goals
        have kn : (keysC cl).Nodup := ck.inc.imp fun {a b} h e => by rw [e] at h; exact Nat.lt_irrefl _ h
        have ktot := nOf_sum cl kn
        have wok := words_ok (keysC cl) (nOf cl) kn (totC cl)
        have wf : (wordsN (keysC cl) (nOf cl) (totC cl)).length ≤ 729 := words_few _ kn (by unfold keysC; rw [List.length_map]; exact ck.len) ck.tot
        have wp : ∀ v ∈ wordsN (keysC cl) (nOf cl) (totC cl), v.Perm (whole (keysC cl) (nOf cl)) := fun v hv => word_perm kn (by rw [ktot]; exact hv)
        have wabc : ∀ v ∈ wordsN (keysC cl) (nOf cl) (totC cl), Abc v := fun v hv => ⟨by rw [wok.len v hv]; exact ck.tot, fun c hc => ck.abc c (wok.let1 v hv c hc)⟩
        have wnd := wok.nd
        have wlen := wok.len
        have tot2 : (wordsN (keysC cl) (nOf cl) (totC cl)).length ≤ 243 := by
          have kl : (keysC cl).length = cl.length := by unfold keysC; rw [List.length_map]
          have f1 := wok.few
          rw [kl] at f1
          rcases ck.alt with h | h
          · have f2 : cl.length ^ totC cl ≤ 2 ^ totC cl := Nat.pow_le_pow_left h _
            have f3 : 2 ^ totC cl ≤ 2 ^ 6 := Nat.pow_le_pow_right (by decide) ck.tot
            omega
          · have f2 : cl.length ^ totC cl ≤ 3 ^ totC cl := Nat.pow_le_pow_left ck.len _
            have f3 : 3 ^ totC cl ≤ 3 ^ 5 := Nat.pow_le_pow_right (by decide) h
            omega
        have t6 := ck.tot
        refine ⟨_, rfl, cd, cl, rfl, hG, ck.inc, ck.len, ck.tot, fun pw G1 s1 hpw => ?_⟩
        obtain ⟨ws, hws⟩ : ∃ ws, wordsN (keysC cl) (nOf cl) (totC cl) = ws := ⟨_, rfl⟩
        rw [hws] at hpw wf wp wabc wnd wlen tot2
        -- what is due
        have klen : (keysC cl).length ≤ 3 := by unfold keysC; rw [List.length_map]; exact ck.len
        refine ⟨⟨_, rfl⟩, _, rfl, cd, _, _, rfl, s1 _ _ hG, keys_str cl, (by rw [List.length_map]; omega), fun ys p perm srt zp => ?_⟩
        have ey := sort_signs perm srt (.refl _) (ck.inc.imp fun {a b} h => Nat.le_of_lt h)
        subst ey
        obtain ⟨G2, e2', U2, B2⟩ := alloc (o := .lst (((keysC cl).map one).map V.str)) zp
        rw [e2']
        refine ⟨p, rfl, ⟨_, .of B2⟩, fun D hD => ?_⟩
        refine lcM_list (K := K) (a := p) (xs := ((keysC cl).map one).map V.str) (zs := keysC cl) (R := fun _ x z => x = V.str (one z)) (R' := fun _ x z => x = V.str (strL z)) (fun _ => true) (fun z => List.replicate (nOf cl z) z) hD (.of B2) (by rw [List.map_map]; exact All2.of_map (f := fun z => V.str (one z)) (keysC cl)) (fun _ _ _ _ _ r => r) (fun _ _ _ _ _ r => r) (by omega) ?_ ?_
        · intro j2 x z2 G' C C0 hz2 s rx yes no
          have rx : x = V.str (one z2) := rx
          subst rx
          have hzk := List.mem_of_getElem? hz2
          have dg := DGet.k (k := Sum.inr (one z2)) (s _ _ (U2 _ _ (s1 _ _ hG)))
          rw [valC z2 cl hzk] at dg
          have nle : nOf cl z2 ≤ 6 := by
            have := le_sum (List.mem_map_of_mem (f := nOf cl) hzk)
            omega
          refine ⟨rfl, ?_⟩
          refine yes_i ?_
          refine iteY rfl ?_
          refine ⟨_, rfl, _, rfl, _, rfl, cd, _, rfl, dg, strL [z2], _, rfl, rfl, by omega, by omega, (by rw [strL_list, Int.toNat_natCast]; show 1 * _ ≤ _; omega), ?_⟩
          rw [Int.toNat_natCast, repB]
          exact yes rfl _ _ (fun _ _ q => q) rfl
        intro ys G3 s3 hD3 hall3
        have ey := hall3.eq_map
        rw [List.filter_eq_self.mpr (fun _ _ => rfl)] at ey
        have ey2 : ys = (((keysC cl).map fun z => List.replicate (nOf cl z) z).map strL).map V.str := by rw [ey, List.map_map (g := V.str)]; rfl
        rw [ey2] at hD3
        have ewh : ((keysC cl).map fun z => List.replicate (nOf cl z) z).flatten = whole (keysC cl) (nOf cl) := rfl
        have lwh : (whole (keysC cl) (nOf cl)).length ≤ 6 := by rw [whole_len, ktot]; exact ck.tot
        refine ⟨"", D, _, rfl, rfl, .inl (.of hD3), ?_, ?_⟩
        · rw [sum_lenV, ewh]
          show _ + _ * 0 ≤ _
          omega
        rw [joinV, ewh]
        refine ⟨_, _, rfl, rfl, (by rw [strL_len]; show 1 + _ ≤ _; omega), ?_⟩
        rw [show ("$" : Str) = strL [36] from rfl, strL_add]
        obtain ⟨due, hdue⟩ : ∃ due, [36] ++ whole (keysC cl) (nOf cl) = due := ⟨_, rfl⟩
        rw [hdue]
        have dinc : due.Pairwise (· ≤ ·) := by
          rw [← hdue]
          refine List.Pairwise.cons (fun y hy => ?_) (whole_inc _ _ ck.inc)
          have := ck.abc y (whole_mem hy)
          omega
        have dperm : ∀ v ∈ ws, (rowOf [v]).Perm due := fun v hv => by
          rw [← hdue]
          exact (row_perm1 v).trans ((wp v hv).cons 36)
        have dlen : due.length ≤ 7 := by rw [← hdue]; show (whole (keysC cl) (nOf cl)).length + 1 ≤ 7; omega
        -- the rows of the words
        have tG3 : ∀ b o, G1 b = some o → G3 b = some o := fun b o e => s3 _ _ (U2 _ _ e)
        refine ⟨_, rfl, pw, rfl, ⟨_, .of (tG3 _ _ hpw)⟩, fun D2 nD2 => ?_⟩
        refine lcM_list (K := K) (a := pw) (xs := wsV ws) (zs := ws) (R := fun _ x z => x = V.str (strL z)) (R' := fun _ x z => x = V.str (strL z)) (fun _ => true) (fun v => rowOf [v]) nD2 (.of (tG3 _ _ hpw)) (All2.of_map (f := fun z => V.str (strL z)) ws) (fun _ _ _ _ _ r => r) (fun _ _ _ _ _ r => r) (by omega) ?_ ?_
        · intro j2 x z2 G' C C0 hz2 s rx yes no
          have rx : x = V.str (strL z2) := rx
          subst rx
          have ab := wabc z2 (List.mem_of_getElem? hz2)
          refine ⟨rfl, ?_⟩
          refine yes_i ?_
          refine iteY rfl ?_
          exact ⟨_, rfl, z2, lo [z2], rfl, (by have := ab.1; omega), abc_isT ab, lo_ok _, fun G'' s'' => yes rfl _ _ s'' rfl⟩
        intro ys G4 s4' hD4 hall4
        have ey := hall4.eq_map
        rw [List.filter_eq_self.mpr (fun _ _ => rfl)] at ey
        have ey2 : ys = (ws.map fun v => strL (rowOf [v])).map V.str := by rw [ey, List.map_map, List.map_map]; rfl
        rw [ey2] at hD4
        have rnd : (ws.map fun v => strL (rowOf [v])).Nodup := by
          refine List.pairwise_map.mpr (List.Pairwise.imp_of_mem (fun {a b} ha hb ne e => ne ?_) wnd)
          have := row_inj (ts := [a]) (us := [b]) (fun t ht => by rw [List.mem_singleton.mp ht]; exact wabc a ha) (fun t ht => by rw [List.mem_singleton.mp ht]; exact wabc b hb) rfl (strL_inj.mp e)
          injection this
        refine ⟨_, rfl, D2, _, rfl, .of hD4, (by rw [List.length_map]; omega), ?_⟩
        rw [ddS_id rnd, List.length_map]
        have hpw4 := s4' _ _ (tG3 _ _ hpw)
        refine ⟨_, rfl, pw, _, rfl, .inl (.of hpw4), rfl, _, rfl, ?_⟩
        refine iteN (by unfold wsV; rw [List.length_map]; exact neq _) ?_
        refine ⟨_, rfl, D2, rfl, ⟨_, .of hD4⟩, fun D5 nD5 => ?_⟩
        refine lcM_list (K := K) (a := D2) (xs := (ws.map fun v => strL (rowOf [v])).map V.str) (zs := ws) (R := fun _ x z => x = V.str (strL (rowOf [z]))) (R' := fun _ _ (_ : Nat) => True) (fun _ => false) (fun _ => 0) nD5 (.of hD4) (by rw [List.map_map]; exact All2.of_map (f := fun z => V.str (strL (rowOf [z]))) ws) (fun _ _ _ _ _ r => r) (fun _ _ _ _ _ r => r) (by omega) ?_ ?_
        · intro j2 x z2 G' C C0 hz2 s rx yes no
          have rx : x = V.str (strL (rowOf [z2])) := rx
          subst rx
          have dp := dperm z2 (List.mem_of_getElem? hz2)
          have rlen : (rowOf [z2]).length ≤ 7 := by rw [dp.length_eq]; exact dlen
          refine ⟨rfl, ?_⟩
          refine ⟨⟨_, rfl⟩, _, rfl, strL (rowOf [z2]), rfl, (by rw [strL_size]; omega), fun ys p perm srt zp => ?_⟩
          rw [sgn_one] at perm
          have ey := sort_signs perm srt dp dinc
          subst ey
          obtain ⟨G5, e5, U5, B5⟩ := alloc (o := .lst ((due.map one).map V.str)) zp
          rw [e5]
          rw [ones_map] at B5
          refine ⟨"", p, _, rfl, rfl, .inl (.of B5), ?_, ?_⟩
          · rw [sum_lenV, ones_flat]
            show due.length + _ * 0 ≤ _
            omega
          rw [joinV, ones_flat]
          refine ⟨_, rfl, rfl, _, rfl, ?_⟩
          refine iteN (neq _) ?_
          exact no rfl _ U5
        intro ys G5 s5 hD5 hall5
        have e0 : ws.filter (fun _ => false) = [] := List.filter_eq_nil_iff.mpr fun _ _ h => by cases h
        rw [e0] at hall5
        cases hall5
        refine ⟨(by show 0 ≤ sizeLine; omega), fun p6 z6 => ?_⟩
        obtain ⟨G6, e6, U6, B6⟩ := alloc (o := .lst []) z6
        rw [e6]
        refine ⟨.ls (.of (U6 _ _ hD5)) (.of B6) rfl (fun i x y e1 e2 => by simp at e1), _, rfl, ?_⟩
        refine iteN rfl ?_
        -- the pairs
        have hpw6 := U6 _ _ (s5 _ _ hpw4)
        refine ⟨(by show 0 ≤ sizeLine; omega), fun M zM => ?_⟩
        obtain ⟨G7, e7', U7, B7⟩ := alloc (o := .lst []) zM
        rw [e7']
        have tG7 : ∀ b o, H4 b = some o → G7 b = some o := fun b o e => U7 _ _ (U6 _ _ (s5 _ _ (s4' _ _ (tG3 _ _ (s1 _ _ (kG _ _ e))))))
        have pM : pw ≠ M := fun z => by rw [z, zM] at hpw6; cases hpw6
        have hpw7 := U7 _ _ hpw6
        refine ⟨_, rfl, pw, rfl, ⟨_, .of hpw7⟩, for_list (K := K) (a := pw) (xs := wsV ws) (fun j σ H' => ∃ v6 v9 v10 v11 v12 : Option V, σ = [some (.ref a), some (.int z), some (.ref wl), some (.ref cd), some (.ref pw), some (.str (strL due)), v6, some (.ref D2), some (.ref M), v9, v10, v11, v12] ∧ KeepB M G7 H' ∧ ∃ xs, H' M = some (.lst xs) ∧ All2 (PairAt H') xs (pairsM (ws.take j))) ⟨_, _, _, _, _, rfl, fun _ _ e _ => e, [], B7, .nil⟩ (fun j σ H' _ ⟨_, _, _, _, _, _, kb, _⟩ => .of (kb _ _ hpw7 pM)) ?_ ?_⟩
        · rintro j y σ G8 hj ⟨v6, v9, v10, v11, v12, rfl, kb8, xs, hM, hall⟩
          unfold wsV at hj
          rw [List.getElem?_map] at hj
          obtain ⟨v, hv, rfl⟩ := Option.map_eq_some_iff.mp hj
          have vlen := (wabc v (List.mem_of_getElem? hv)).1
          have vl : (strL v).length ≤ sizeLine := by rw [strL_len, hz]; omega
          refine ⟨_, rfl, .inl ⟨rfl, _, .of hM⟩, ?_⟩
          refine ⟨_, rfl, strL v, rfl, vl, _, _, rfl, rfl, _, rfl, (by rw [strL_len]; omega), (by rw [strL_len]; omega), fun D9 nD9 => ?_⟩
          have hn : (((strL v).length : Nat) + (1 : Int)).toNat = v.length + 1 := by rw [strL_len]; omega
          refine lcM_range (lo := 0) (n := (((strL v).length : Nat) + (1 : Int)).toNat) (R' := PairAt) (fun _ => true) (fun kk => [v.take kk, v.drop kk]) nD9 (fun _ _ _ _ s r => r.keepL s) (by omega) ?_ ?_
          · intro kk G' C C0 hk s yes no
            rw [Int.zero_add]
            refine ⟨rfl, ?_⟩
            refine yes_i ?_
            refine iteY rfl ?_
            refine ⟨_, rfl, _, rfl, _, rfl, ?_⟩
            dsimp only [tNoPart]
            refine ⟨_, rfl, vl, ?_⟩
            rw [takeL]
            refine ⟨_, rfl, _, rfl, _, rfl, ?_⟩
            dsimp only [tNoPart]
            refine ⟨_, rfl, vl, ?_⟩
            rw [cutL]
            refine ⟨(by show 2 ≤ sizeLine; decide), fun t0 zt => ?_⟩
            obtain ⟨G9, g9, V1, B9⟩ := alloc (o := .tup (wsV [v.take kk, v.drop kk])) zt
            have g9' : upd G' t0 (.tup [.str (strL (v.take kk)), .str (strL (v.drop kk))]) = G9 := g9
            rw [g9']
            exact yes rfl _ _ V1 ⟨t0, rfl, B9⟩
          · intro ys G9 s9 hD9 hall9
            rw [List.filter_eq_self.mpr (fun _ _ => rfl), hn] at hall9
            have l1 := hall.length
            have l2 := hall9.length
            rw [List.length_map, List.length_range] at l2
            have l3 : (pairsM (ws.take j)).length ≤ 729 * 7 := by
              have h1 := pairs_few (ws := ws.take j) fun u hu => (wabc u (List.mem_of_mem_take hu)).1
              have h2 : (ws.take j).length ≤ 729 := Nat.le_trans (by rw [List.length_take]; exact Nat.min_le_right _ _) wf
              omega
            have hM9 := s9 _ _ hM
            refine ⟨M, D9, _, _, rfl, rfl, hM9, hD9, (by rw [l1, l2, hz]; omega), ?_⟩
            refine ⟨_, _, _, _, _, rfl, fun b o e nb => ?_, _, upd_same, ?_⟩
            · rw [upd_ne nb]
              exact s9 _ _ (kb8 _ _ e nb)
            · rw [pairs_take ws hv]
              exact All2.append (hall.mono fun _ _ _ r => (r.keep s9).put hM9) (hall9.mono fun _ _ _ r => r.put hM9)
        rintro σ G8 ⟨v6, v9, v10, v11, v12, rfl, kb8, xs, hM, hall⟩
        have wl2 : (wsV ws).length = ws.length := List.length_map ..
        rw [wl2, List.take_length] at hall
        have lpf := pairs_few (ws := ws) fun u hu => (wabc u hu).1
        have lxs := hall.length
        have pabc : ∀ ts ∈ pairsM ws, ∀ t ∈ ts, Abc t := fun ts hts t ht => by
          obtain ⟨v, hv, kk, _, rfl⟩ := pairs_mem hts
          have ab := wabc v hv
          rcases List.mem_cons.mp ht with e | ht
          · rw [e]
            exact ⟨by rw [List.length_take]; have := ab.1; omega, fun c hc => ab.2 c (List.mem_of_mem_take hc)⟩
          · rw [List.mem_singleton.mp ht]
            exact ⟨by rw [List.length_drop]; have := ab.1; omega, fun c hc => ab.2 c (List.mem_of_mem_drop hc)⟩
        have plen : ∀ ts ∈ pairsM ws, ts.length = 2 := fun ts hts => by
          obtain ⟨v, hv, kk, _, rfl⟩ := pairs_mem hts
          rfl
        refine ⟨_, rfl, M, rfl, ⟨_, .of hM⟩, fun D9 nD9 => ?_⟩
        refine lcM_list (K := K) (a := M) (xs := xs) (zs := pairsM ws) (R := PairAt) (R' := fun _ x z => x = V.str (strL z)) (fun _ => true) rowOf nD9 (.of hM) hall (fun _ _ _ _ s r => r.keep s) (fun _ _ _ _ _ r => r) (by omega) ?_ ?_
        · intro j2 x ts G' C C0 hz2 s rx yes no
          obtain ⟨ap, rfl, hap⟩ := rx
          have hts := List.mem_of_getElem? hz2
          refine ⟨rfl, ?_⟩
          refine yes_i ?_
          refine iteY rfl ?_
          exact ⟨_, rfl, ap, ts, lo ts, rfl, hap, abc_good (by rw [plen ts hts]; omega) (pabc ts hts), lo_ok _, fun G'' s'' => yes rfl _ _ s'' rfl⟩
        intro ys G9 s9 hD9 hall9
        have ey := hall9.eq_map
        rw [List.filter_eq_self.mpr (fun _ _ => rfl)] at ey
        have ey2 : ys = ((pairsM ws).map fun ts => strL (rowOf ts)).map V.str := by rw [ey, List.map_map, List.map_map]; rfl
        rw [ey2] at hD9
        have pnd : ((pairsM ws).map fun ts => strL (rowOf ts)).Nodup := by
          refine List.pairwise_map.mpr (List.Pairwise.imp_of_mem (fun {a b} ha hb ne e => ne ?_) (pairs_nodup wnd))
          exact row_inj (pabc a ha) (pabc b hb) (by rw [plen a ha, plen b hb]) (strL_inj.mp e)
        refine ⟨D9, _, rfl, .of hD9, (by rw [List.length_map]; omega), ?_⟩
        rw [ddS_id pnd, List.length_map]
        refine ⟨_, rfl, M, _, rfl, .inl (.of (s9 _ _ hM)), rfl, _, rfl, ?_⟩
        refine iteN (by rw [lxs]; exact neq _) ?_
        exact ⟨_, _, _, _, _, _, _, _, _, _, _, _, rfl, fun b o e => s9 _ _ (kb8 _ _ (tG7 _ _ (s4 _ _ e)) (fun z => by
          have := U6 _ _ (s5 _ _ (s4' _ _ (tG3 _ _ (s1 _ _ (kG _ _ (s4 _ _ e))))))
          rw [z, zM] at this
          cases this))⟩
    · rintro σ H9 ⟨v1, v2, v3, v4, v5, v6, v7, v8, v9, v10, v11, v12, rfl, s4⟩
      exact k _
end
end T12

set_option Elab.async false
set_option linter.all false
set_option maxRecDepth 100000
set_option maxHeartbeats 4000000
/-! ErrEnd: an error class's facts, from what the top has written. -/
namespace EK
open PySem PySem.W L2
def errB (K : Frag) (C fI : Addr) (f : Str) : Bool :=
  xfB K C && (decide (findIn K (.ref C) "__setattr__" = some (some (.builtin "object.__setattr__"))) && (decide (findIn K (.ref C) f = some none) && (decide (typeIn K (.ref fI) = some (.type "function")) && (keepIn K (.ref C) &&
  (decide (typeIn K (.ref C) = some (.type "type")) && (decide (exmOne K (.ref C) (.ref C) = some true) && (decide (subIn K (.ref C) (.type "ValueError") = some true) && (decide (ks_superIn K C C "__init__" = some (some (.builtin "ValueError.__init__"))) &&
  (decide (mroIn K C (.ref C) = some true) && (decide (findIn K (.ref C) "__class__" = some (some (.builtin "object.__class__"))) && decide (mroIn K C (.type "object") = some true)))))))))))
theorem and2 {a b : Bool} (h : (a && b) = true) : a = true ∧ b = true := Bool.and_eq_true_iff.mp h
theorem err_mk {P : Program} {K : Frag} {h : Heap} {mg : Str → Option Value} {x f : Str} {C fI N cda cc : Addr} (X : K.In h) (G : h.Ns mainGlobals mg)
    {nm q qn msg file : Str} {bs bm : List Value} {sn : List Str} {sub : List Value} {ab : Bool} {col : Option Bool} {dd od an cdd cld : Option Addr} {m0 m1 m2 m3 m5 : Option Value} {oc doc pm ct ccl cl : Value} {osl ccs csl : Array (Option Value)} {vs : Array Value} {tf : Tok}
    {p1 p2 a1 a2 a3 a4 a5 a6 b1 b2 b3 b4 : Pos}
    (aC : nsIn K mainGlobals x = some (some (.ref C))) (xL : K.lookup C = some (excClassObj nm q C N bs bm true sn sub ab col dd m0 m1 m2 m3 m5 "ValueError.__new__")) (rv : HandSPX.refsVE bm = true)
    (iC : findIn K (.ref C) "__init__" = some (some (.ref fI)))
    (l1 : K.lookup fI = some ⟨oc, od, .func (ksFn "__init__" qn (eArgs f p1 p2) (eBody f msg a1 a2 a3 a4 a5 a6 b1 b2 b3 b4) (eScope f) .none .none doc pm an (.ref cda) ct cc), osl⟩) (c1 : codeIn K (.ref cda) qn = true)
    (bd : ∀ u v : Value, bindArgs (ksFn "__init__" qn (eArgs f p1 p2) (eBody f msg a1 a2 a3 a4 a5 a6 b1 b2 b3 b4) (eScope f) .none .none doc pm an (.ref cda) ct cc) ⟨[u, v], []⟩ = pure [(("self" : Str), u), (f, v)])
    (sc : ∀ L : Addr, SupCall a1 a2 a3 a4 a5 msg (callEnv (ksFn "__init__" qn (eArgs f p1 p2) (eBody f msg a1 a2 a3 a4 a5 a6 b1 b2 b3 b4) (eScope f) .none .none doc pm an (.ref cda) ct cc) L fI))
    (cd : K.lookup cda = some ⟨ccl, cdd, .fields vs, ccs⟩) (vf : vs[2]? = some (.str file tf)) (pf : ((P.main.file : Str) == file) = true) (cL : K.lookup cc = some ⟨cl, cld, .cell (some (.ref C)), csl⟩)
    (eB : errB K C fI f = true) (ho : nsIn K cStatics "thirdparty.any" = some none) (su : nsIn K mainGlobals "super" = some none) (fok : f ≠ "self" ∧ f ≠ "__class__" ∧ f ≠ "super" ∧ f ≠ "__debug__") (top : (P.main.scope.names.lookup ("super" : Str)).isSome = false) :
    ErrTxt P K mg x f C fI := by
  obtain ⟨h1, eB⟩ := and2 eB
  obtain ⟨h2, eB⟩ := and2 eB
  obtain ⟨h3, eB⟩ := and2 eB
  obtain ⟨h4, eB⟩ := and2 eB
  obtain ⟨h5, eB⟩ := and2 eB
  obtain ⟨h6, eB⟩ := and2 eB
  obtain ⟨h7, eB⟩ := and2 eB
  obtain ⟨h8, eB⟩ := and2 eB
  obtain ⟨h9, eB⟩ := and2 eB
  obtain ⟨h10, eB⟩ := and2 eB
  have T := xfB_ok h1
  exact { gC := mg_of X G aC, cls := ⟨nm, q, N, bs, bm, sn, sub, ab, col, dd, m0, m1, m2, m3, m5, xL, rv⟩, sa := of_decide_eq_true h2, ga := T.ga, gg := T.gg, noN := of_decide_eq_true h3, iC := iC, tC := of_decide_eq_true h4, kC := h5, exC := T.exC,
          tyC := of_decide_eq_true h6, hdC := T.hdC, te := of_decide_eq_true h7, hB := of_decide_eq_true h8, si := of_decide_eq_true h9, ho := ho, su := mg_none_of X G su, mC := of_decide_eq_true h10, fok := fok, top := top,
          fn := ⟨oc, od, qn, msg, doc, pm, an, cda, cc, ct, osl, p1, p2, a1, a2, a3, a4, a5, a6, b1, b2, b3, b4, l1, c1, bd, sc, ⟨ccl, cdd, ccs, vs, file, tf, cd, vf, pf⟩, ⟨cl, cld, csl, cL⟩⟩ }
theorem excC_of {K : Frag} {C fI : Addr} {f : Str} (eB : errB K C fI f = true) (hn : specialIn K (.builtin "object.__class__") "__get__" = some (some (.builtin "getset_descriptor.__get__"))) (ht : takesIn K (.builtin "object.__class__") = some true) : ExcC K C := by
  obtain ⟨h1, eB⟩ := and2 eB
  obtain ⟨h2, eB⟩ := and2 eB
  obtain ⟨h3, eB⟩ := and2 eB
  obtain ⟨h4, eB⟩ := and2 eB
  obtain ⟨h5, eB⟩ := and2 eB
  obtain ⟨h6, eB⟩ := and2 eB
  obtain ⟨h7, eB⟩ := and2 eB
  obtain ⟨h8, eB⟩ := and2 eB
  obtain ⟨h9, eB⟩ := and2 eB
  obtain ⟨h10, eB⟩ := and2 eB
  obtain ⟨h11, h12⟩ := and2 eB
  have T := xfB_ok h1
  exact ⟨T.ga, T.gg, T.exC, T.hdC, of_decide_eq_true h11, hn, ht, of_decide_eq_true h12⟩
/-- which class is which, told apart -/
def kindsB (K : Frag) (E : Addr) (Cs : List Addr) : Bool :=
  (Cs.zipIdx.all fun p => Cs.zipIdx.all fun q => decide (kitOne K (.ref p.1) (.ref q.1) = some (decide (p.2 = q.2)))) && (Cs.all fun C => decide (kitOne K (.ref C) (.ref E) = some true) && decide (kitOne K (.ref C) (.type "ValueError") = some true))
theorem kinds_kt {K : Frag} {E : Addr} {Cs : List Addr} (h : kindsB K E Cs = true) (i j : Nat) (C D : Addr) (h1 : Cs[i]? = some C) (h2 : Cs[j]? = some D) : kitOne K (.ref C) (.ref D) = some (decide (i = j)) := by
  obtain ⟨h, _⟩ := and2 h
  have q := List.all_eq_true.mp h (C, i) (List.mk_mem_zipIdx_iff_getElem?.mpr h1)
  have q := List.all_eq_true.mp q (D, j) (List.mk_mem_zipIdx_iff_getElem?.mpr h2)
  exact of_decide_eq_true q
theorem kinds_ke {K : Frag} {E : Addr} {Cs : List Addr} (h : kindsB K E Cs = true) (C : Addr) (hC : C ∈ Cs) : kitOne K (.ref C) (.ref E) = some true ∧ kitOne K (.ref C) (.type "ValueError") = some true := by
  obtain ⟨_, h⟩ := and2 h
  obtain ⟨a, b⟩ := and2 (List.all_eq_true.mp h C hC)
  exact ⟨of_decide_eq_true a, of_decide_eq_true b⟩
end EK

set_option Elab.async false
set_option linter.all false
set_option maxRecDepth 100000
set_option maxHeartbeats 4000000
namespace T12
open PySem L2 EK
theorem all_mk {l : PySem.W.OpenLaw} {w : World} {K : PySem.W.Frag} {h : Heap} {mg : Str → Option Value} {fa C1 i1 : Addr} {t1 t2 : Tok} (X : K.In h) (G : h.Ns mainGlobals mg) (hfa : mg "law" = some (.ref fa))
    {fIT : Addr} {odIT anIT : Option Addr} {slIT : Array (Option Value)} {ocIT kVIT dcIT pmIT cdIT ctIT : Value}
    {fCT : Addr} {odCT anCT : Option Addr} {slCT : Array (Option Value)} {ocCT kVCT dcCT pmCT cdCT ctCT : Value}
    {fCTS : Addr} {odCTS anCTS : Option Addr} {slCTS : Array (Option Value)} {ocCTS kVCTS dcCTS pmCTS cdCTS ctCTS : Value}
    {fRO : Addr} {odRO anRO : Option Addr} {slRO : Array (Option Value)} {ocRO kVRO dcRO pmRO cdRO ctRO : Value}
    {fRL : Addr} {odRL anRL : Option Addr} {slRL : Array (Option Value)} {ocRL kVRL dcRL pmRL cdRL ctRL : Value}
    {fRW : Addr} {odRW anRW : Option Addr} {slRW : Array (Option Value)} {ocRW kVRW dcRW pmRW cdRW ctRW : Value}
    {fEN : Addr} {odEN anEN : Option Addr} {slEN : Array (Option Value)} {ocEN kVEN dcEN pmEN cdEN ctEN : Value}
    {fSF : Addr} {odSF anSF : Option Addr} {slSF : Array (Option Value)} {ocSF kVSF dcSF pmSF cdSF ctSF : Value}
    {fTN : Addr} {odTN anTN : Option Addr} {slTN : Array (Option Value)} {ocTN kVTN dcTN pmTN cdTN ctTN : Value}
    {fW : Addr} {odW anW : Option Addr} {slW : Array (Option Value)} {ocW kVW dcW pmW cdW ctW : Value}
    {fDR : Addr} {odDR anDR : Option Addr} {slDR : Array (Option Value)} {ocDR kVDR dcDR pmDR cdDR ctDR : Value}
    {fCO : Addr} {odCO anCO : Option Addr} {slCO : Array (Option Value)} {ocCO kVCO dcCO pmCO cdCO ctCO : Value}
    {fWO : Addr} {odWO anWO : Option Addr} {slWO : Array (Option Value)} {ocWO kVWO dcWO pmWO cdWO ctWO : Value}
    {fZ : Addr} {odZ anZ : Option Addr} {slZ : Array (Option Value)} {ocZ kVZ dcZ pmZ cdZ ctZ : Value}
    (T1 : ErrTxt l.prog K mg "NoText" "text" C1 i1) 
    (aIT : PySem.W.nsIn K mainGlobals "is_text" = some (some (.ref fIT))) (lIT : K.lookup fIT = some ⟨ocIT, odIT, .func (PySem.W.fnOf "is_text" "is_text" (defArgs sIsText) (defBody sIsText) (defScope sIsText) .none kVIT dcIT pmIT anIT cdIT ctIT), slIT⟩) (cIT : PySem.W.codeIn K cdIT "is_text" = true) (kIT : PySem.W.keepIn K (.ref fIT) = true)
    (aCT : PySem.W.nsIn K mainGlobals "check_text" = some (some (.ref fCT))) (lCT : K.lookup fCT = some ⟨ocCT, odCT, .func (PySem.W.fnOf "check_text" "check_text" (defArgs sCkText) (defBody sCkText) (defScope sCkText) .none kVCT dcCT pmCT anCT cdCT ctCT), slCT⟩) (cCT : PySem.W.codeIn K cdCT "check_text" = true) (kCT : PySem.W.keepIn K (.ref fCT) = true)
    (aCTS : PySem.W.nsIn K mainGlobals "check_texts" = some (some (.ref fCTS))) (lCTS : K.lookup fCTS = some ⟨ocCTS, odCTS, .func (PySem.W.fnOf "check_texts" "check_texts" (defArgs sCkTexts) (defBody sCkTexts) (defScope sCkTexts) .none kVCTS dcCTS pmCTS anCTS cdCTS ctCTS), slCTS⟩) (cCTS : PySem.W.codeIn K cdCTS "check_texts" = true) (kCTS : PySem.W.keepIn K (.ref fCTS) = true)
    (aRO : PySem.W.nsIn K mainGlobals "row_of" = some (some (.ref fRO))) (lRO : K.lookup fRO = some ⟨ocRO, odRO, .func (PySem.W.fnOf "row_of" "row_of" (defArgs sRO) (defBody sRO) (defScope sRO) .none kVRO dcRO pmRO anRO cdRO ctRO), slRO⟩) (cRO : PySem.W.codeIn K cdRO "row_of" = true) (kRO : PySem.W.keepIn K (.ref fRO) = true)
    (aRL : PySem.W.nsIn K mainGlobals "row_of_list" = some (some (.ref fRL))) (lRL : K.lookup fRL = some ⟨ocRL, odRL, .func (PySem.W.fnOf "row_of_list" "row_of_list" (defArgs sRL) (defBody sRL) (defScope sRL) .none kVRL dcRL pmRL anRL cdRL ctRL), slRL⟩) (cRL : PySem.W.codeIn K cdRL "row_of_list" = true) (kRL : PySem.W.keepIn K (.ref fRL) = true)
    (aRW : PySem.W.nsIn K mainGlobals "_row" = some (some (.ref fRW))) (lRW : K.lookup fRW = some ⟨ocRW, odRW, .func (PySem.W.fnOf "_row" "_row" (defArgs sRW) (defBody sRW) (defScope sRW) .none kVRW dcRW pmRW anRW cdRW ctRW), slRW⟩) (cRW : PySem.W.codeIn K cdRW "_row" = true) (kRW : PySem.W.keepIn K (.ref fRW) = true)
    (aEN : PySem.W.nsIn K mainGlobals "_enough" = some (some (.ref fEN))) (lEN : K.lookup fEN = some ⟨ocEN, odEN, .func (PySem.W.fnOf "_enough" "_enough" (defArgs sEN) (defBody sEN) (defScope sEN) .none kVEN dcEN pmEN anEN cdEN ctEN), slEN⟩) (cEN : PySem.W.codeIn K cdEN "_enough" = true) (kEN : PySem.W.keepIn K (.ref fEN) = true)
    (aSF : PySem.W.nsIn K mainGlobals "_suffixes" = some (some (.ref fSF))) (lSF : K.lookup fSF = some ⟨ocSF, odSF, .func (PySem.W.fnOf "_suffixes" "_suffixes" (defArgs sSF) (defBody sSF) (defScope sSF) .none kVSF dcSF pmSF anSF cdSF ctSF), slSF⟩) (cSF : PySem.W.codeIn K cdSF "_suffixes" = true) (kSF : PySem.W.keepIn K (.ref fSF) = true)
    (aTN : PySem.W.nsIn K mainGlobals "_turns" = some (some (.ref fTN))) (lTN : K.lookup fTN = some ⟨ocTN, odTN, .func (PySem.W.fnOf "_turns" "_turns" (defArgs sTN) (defBody sTN) (defScope sTN) .none kVTN dcTN pmTN anTN cdTN ctTN), slTN⟩) (cTN : PySem.W.codeIn K cdTN "_turns" = true) (kTN : PySem.W.keepIn K (.ref fTN) = true)
    (aW : PySem.W.nsIn K mainGlobals "_law_well" = some (some (.ref fW))) (lW : K.lookup fW = some ⟨ocW, odW, .func (PySem.W.fnOf "_law_well" "_law_well" (defArgs sWell) (defBody sWell) (defScope sWell) .none kVW dcW pmW anW cdW ctW), slW⟩) (cW : PySem.W.codeIn K cdW "_law_well" = true) (kW : PySem.W.keepIn K (.ref fW) = true)
    (aDR : PySem.W.nsIn K mainGlobals "_law_draw" = some (some (.ref fDR))) (lDR : K.lookup fDR = some ⟨ocDR, odDR, .func (PySem.W.fnOf "_law_draw" "_law_draw" (defArgs sDraw) (defBody sDraw) (defScope sDraw) .none kVDR dcDR pmDR anDR cdDR ctDR), slDR⟩) (cDR : PySem.W.codeIn K cdDR "_law_draw" = true) (kDR : PySem.W.keepIn K (.ref fDR) = true)
    (aCO : PySem.W.nsIn K mainGlobals "_law_counts" = some (some (.ref fCO))) (lCO : K.lookup fCO = some ⟨ocCO, odCO, .func (PySem.W.fnOf "_law_counts" "_law_counts" (defArgs sCO) (defBody sCO) (defScope sCO) .none kVCO dcCO pmCO anCO cdCO ctCO), slCO⟩) (cCO : PySem.W.codeIn K cdCO "_law_counts" = true) (kCO : PySem.W.keepIn K (.ref fCO) = true)
    (aWO : PySem.W.nsIn K mainGlobals "_law_words" = some (some (.ref fWO))) (lWO : K.lookup fWO = some ⟨ocWO, odWO, .func (PySem.W.fnOf "_law_words" "_law_words" (defArgs sWO) (defBody sWO) (defScope sWO) .none kVWO dcWO pmWO anWO cdWO ctWO), slWO⟩) (cWO : PySem.W.codeIn K cdWO "_law_words" = true) (kWO : PySem.W.keepIn K (.ref fWO) = true)
    (aZ : PySem.W.nsIn K mainGlobals "law" = some (some (.ref fZ))) (lZ : K.lookup fZ = some ⟨ocZ, odZ, .func (PySem.W.fnOf "law" "law" (defArgs sLaw) (defBody sLaw) (defScope sLaw) .none kVZ dcZ pmZ anZ cdZ ctZ), slZ⟩) (cZ : PySem.W.codeIn K cdZ "law" = true) (kZ : PySem.W.keepIn K (.ref fZ) = true)
    (y1 : PySem.W.nsIn K mainGlobals "LETTERS" = some (some (.str "abcdefghijklmnopqrstuvwxyz" t1))) (y2 : PySem.W.nsIn K mainGlobals "END" = some (some (.str "$" t2)))
    (z1 : PySem.W.nsIn K mainGlobals "isinstance" = some none) (z2 : PySem.W.nsIn K mainGlobals "str" = some none) (z3 : PySem.W.nsIn K mainGlobals "tuple" = some none) (z4 : PySem.W.nsIn K mainGlobals "all" = some none) (z5 : PySem.W.nsIn K mainGlobals "len" = some none) (z6 : PySem.W.nsIn K mainGlobals "range" = some none) (z7 : PySem.W.nsIn K mainGlobals "sorted" = some none) (z8 : PySem.W.nsIn K mainGlobals "enumerate" = some none) (z9 : PySem.W.nsIn K mainGlobals "int" = some none) (z10 : PySem.W.nsIn K mainGlobals "max" = some none) (z11 : PySem.W.nsIn K mainGlobals "ord" = some none) (z12 : PySem.W.nsIn K mainGlobals "sum" = some none) (z13 : PySem.W.nsIn K mainGlobals "set" = some none) :
    ∃ fd : FuncData, (∀ (s : Shared) (v : Value), BindsTo s fd ⟨[v], []⟩ [("_law_script", v)]) ∧ ∀ base : Heap, K.In base → base.Ns mainGlobals mg → FnOk l.prog w K mg base CX0 5 fa fd ["_law_script"] (spLaw K) := by
  have e := hfa.symm.trans (PySem.W.mg_of X G aZ)
  cases e
  have TD : TxtD K mg := ⟨PySem.W.mg_none_of X G z9, PySem.W.mg_none_of X G z5⟩
  have TP : TxtP K mg := ⟨PySem.W.mg_none_of X G z1, PySem.W.mg_none_of X G z2, PySem.W.mg_none_of X G z3, PySem.W.mg_none_of X G z4, PySem.W.mg_none_of X G z5, PySem.W.mg_none_of X G z6, PySem.W.mg_none_of X G z10, PySem.W.mg_none_of X G z11, PySem.W.mg_none_of X G z7, PySem.W.mg_none_of X G z8, ⟨_, PySem.W.mg_of X G y1, ⟨_, rfl⟩⟩, ⟨_, PySem.W.mg_of X G y2, ⟨_, rfl⟩⟩⟩
  have TW : TxtW K mg := ⟨PySem.W.mg_none_of X G z6, PySem.W.mg_none_of X G z12, PySem.W.mg_none_of X G z7⟩
  have TL : TxtL K mg := ⟨PySem.W.mg_none_of X G z6, PySem.W.mg_none_of X G z12, PySem.W.mg_none_of X G z7, PySem.W.mg_none_of X G z5, PySem.W.mg_none_of X G z13⟩
  have FIT := fun_mk (st := sIsText) lIT cIT kIT
  have FCT := fun_mk (st := sCkText) lCT cCT kCT
  have FCTS := fun_mk (st := sCkTexts) lCTS cCTS kCTS
  have FRO := fun_mk (st := sRO) lRO cRO kRO
  have FRL := fun_mk (st := sRL) lRL cRL kRL
  have FRW := fun_mk (st := sRW) lRW cRW kRW
  have FEN := fun_mk (st := sEN) lEN cEN kEN
  have FSF := fun_mk (st := sSF) lSF cSF kSF
  have FTN := fun_mk (st := sTN) lTN cTN kTN
  have FW := fun_mk (st := sWell) lW cW kW
  have FDR := fun_mk (st := sDraw) lDR cDR kDR
  have FCO := fun_mk (st := sCO) lCO cCO kCO
  have FWO := fun_mk (st := sWO) lWO cWO kWO
  have FZ := fun_mk (st := sLaw) lZ cZ kZ
  have bIT := FIT.binds (ps := ["value"]) fun _ _ _ _ _ _ us hl => match us, hl with | [_], _ => rfl
  have bCT := FCT.binds (ps := ["text"]) fun _ _ _ _ _ _ us hl => match us, hl with | [_], _ => rfl
  have bCTS := FCTS.binds (ps := ["texts"]) fun _ _ _ _ _ _ us hl => match us, hl with | [_], _ => rfl
  have bRO := FRO.binds (ps := ["text"]) fun _ _ _ _ _ _ us hl => match us, hl with | [_], _ => rfl
  have bRL := FRL.binds (ps := ["texts"]) fun _ _ _ _ _ _ us hl => match us, hl with | [_], _ => rfl
  have bRW := FRW.binds (ps := ["texts", "rings"]) fun _ _ _ _ _ _ us hl => match us, hl with | [_, _], _ => rfl
  have bEN := FEN.binds (ps := ["texts", "rings"]) fun _ _ _ _ _ _ us hl => match us, hl with | [_, _], _ => rfl
  have bSF := FSF.binds (ps := ["texts"]) fun _ _ _ _ _ _ us hl => match us, hl with | [_], _ => rfl
  have bTN := FTN.binds (ps := ["rings", "many"]) fun _ _ _ _ _ _ us hl => match us, hl with | [_, _], _ => rfl
  have bW := FW.binds (ps := ["_law_cell"]) fun _ _ _ _ _ _ us hl => match us, hl with | [_], _ => rfl
  have bDR := FDR.binds (ps := ["_law_well_here", "_law_many"]) fun _ _ _ _ _ _ us hl => match us, hl with | [_, _], _ => rfl
  have bCO := FCO.binds (ps := ["_law_well_here", "_law_most", "_law_sorts"]) fun _ _ _ _ _ _ us hl => match us, hl with | [_, _, _], _ => rfl
  have bWO := FWO.binds (ps := ["_law_counts_here"]) fun _ _ _ _ _ _ us hl => match us, hl with | [_], _ => rfl
  have gIT := PySem.W.mg_of X G aIT
  have gCT := PySem.W.mg_of X G aCT
  have gCTS := PySem.W.mg_of X G aCTS
  have gRO := PySem.W.mg_of X G aRO
  have gRL := PySem.W.mg_of X G aRL
  have gRW := PySem.W.mg_of X G aRW
  have gEN := PySem.W.mg_of X G aEN
  have gSF := PySem.W.mg_of X G aSF
  have gTN := PySem.W.mg_of X G aTN
  have gW := PySem.W.mg_of X G aW
  have gDR := PySem.W.mg_of X G aDR
  have gCO := PySem.W.mg_of X G aCO
  have gWO := PySem.W.mg_of X G aWO
  have gZ := PySem.W.mg_of X G aZ
  refine ⟨PySem.W.fnOf "law" "law" (defArgs sLaw) (defBody sLaw) (defScope sLaw) .none kVZ dcZ pmZ anZ cdZ ctZ, fun s v => .of_eq rfl, fun base _ _ => ?_⟩
  have GIT : FnOk l.prog w K mg base CX0 1 fIT _ ["value"] (spTx) := ok_IT FIT TP
  have GCT : FnOk l.prog w K mg base CX0 2 fCT _ ["text"] (spCT) := ok_CT FCT GIT gIT kIT bIT
  have GCTS : FnOk l.prog w K mg base CX0 3 fCTS _ ["texts"] (spCTS) := ok_CTS FCTS TP GCT gCT kCT bCT
  have GSF : FnOk l.prog w K mg base CX0 1 fSF _ ["texts"] (spSF) := ok_SF FSF TP
  have GTN : FnOk l.prog w K mg base CX0 1 fTN _ ["rings", "many"] (spTN) := ok_TN FTN TP
  have GEN : FnOk l.prog w K mg base CX0 1 fEN _ ["texts", "rings"] (spEN) := ok_EN FEN TP
  have GRW : FnOk l.prog w K mg base CX0 2 fRW _ ["texts", "rings"] (spRW) := ok_RW FRW TP GSF gSF kSF bSF GTN gTN kTN bTN GEN gEN kEN bEN
  have GRO : FnOk l.prog w K mg base CX0 3 fRO _ ["text"] (spRO) := ok_RO FRO GCT gCT kCT bCT GRW gRW kRW bRW
  have GRL : FnOk l.prog w K mg base CX0 4 fRL _ ["texts"] (spRL) := ok_RL FRL GCTS gCTS kCTS bCTS GRW gRW kRW bRW
  have GW : FnOk l.prog w K mg base CX0 1 fW _ ["_law_cell"] (spWell) := ok_well FW TD
  have GDR : FnOk l.prog w K mg base CX0 1 fDR _ ["_law_well_here", "_law_many"] (spDraw) := ok_draw FDR TD
  have GCO : FnOk l.prog w K mg base CX0 2 fCO _ ["_law_well_here", "_law_most", "_law_sorts"] (spCO) := ok_CO FCO TW GDR gDR kDR bDR
  have GWO : FnOk l.prog w K mg base CX0 1 fWO _ ["_law_counts_here"] (spWO) := ok_WO FWO TW
  exact ok_law FZ TL GW gW kW bW GDR gDR kDR bDR GCO gCO kCO bCO GWO gWO kWO bWO GRO gRO kRO bRO GRL gRL kRL bRL
theorem walk {l : PySem.W.OpenLaw} {q : Program} {loose : List Str} {XP : (Str → Option Value) → Heap → Prop} {YP : World → Heap → Prop} {d : DefRec} {K : Params → PySem.W.Frag} (hn : l.most = some 63) (hdf : d.params.defaults = [])
    (hY : ∀ (w : World) (h : Heap), YP w h → (K w.params).In h)
    (F : ∀ (w : World) (mg : Str → Option Value) (fa : Addr) (h : Heap), (K w.params).In h → h.Ns mainGlobals mg → mg d.name = some (.ref fa) →
      ∃ fd : FuncData, (∀ (s : Shared) (u : Value), BindsTo s fd ⟨[u], []⟩ [("_law_script", u)]) ∧ ∀ base : Heap, (K w.params).In base → base.Ns mainGlobals mg → FnOk l.prog w (K w.params) mg base CX0 5 fa fd ["_law_script"] (spLaw (K w.params))) :
    PySem.W.WalkO q loose XP YP l.row.toRowW d [] (fun f vs => PySem.call f vs) :=
  L2.walk_of (n := 63) (k := 5) (x := "_law_script") (CX := fun _ => CX0) (sp := fun w => spLaw (K w.params)) hn (by decide) hdf ⟨rfl, by decide, by decide⟩ hY F (fun _ _ a ns hl _ hS => ⟨a, ns, rfl, hS, hl, fun _ => rfl⟩) fun _ _ _ _ _ z => z
end T12
open PySem PySem.W PyProof.Rows
set_option maxRecDepth 100000 in
set_option maxHeartbeats 0 in
theorem PySem.Challenge.cw_turnindex_k12_whole_two_rows_never_meet_holds : PySem.Challenge.rw_turnindex_k12_whole_two_rows_never_meet.Holds := by
  w_on; o_law; k_head; (case hw => w_witness2)
  k_fill
  refine T12.walk (l := PySem.Challenge.rw_turnindex_k12_whole_two_rows_never_meet) rfl rfl (fun w h Y => PySem.W.kIn_of Y) ?F
  case F =>
    intro w mg fa h KX G hmg
    refine' T12.all_mk KX G hmg (EK.err_mk (x := "NoText") (f := "text") KX G ?aC1 ?xL1 ?rv1 ?iC1 ?l11 ?c11 ?bd1 ?sc1 ?cd1 ?vf1 ?pf1 ?cL1 ?eB1 ?ho1 ?su1 ?fok1 ?top1)  ?paIT ?plIT ?pcIT ?pkIT ?paCT ?plCT ?pcCT ?pkCT ?paCTS ?plCTS ?pcCTS ?pkCTS ?paRO ?plRO ?pcRO ?pkRO ?paRL ?plRL ?pcRL ?pkRL ?paRW ?plRW ?pcRW ?pkRW ?paEN ?plEN ?pcEN ?pkEN ?paSF ?plSF ?pcSF ?pkSF ?paTN ?plTN ?pcTN ?pkTN ?paW ?plW ?pcW ?pkW ?paDR ?plDR ?pcDR ?pkDR ?paCO ?plCO ?pcCO ?pkCO ?paWO ?plWO ?pcWO ?pkWO ?paZ ?plZ ?pcZ ?pkZ ?y1 ?y2 ?z1 ?z2 ?z3 ?z4 ?z5 ?z6 ?z7 ?z8 ?z9 ?z10 ?z11 ?z12 ?z13
    (case aC1 => k_is); (case xL1 => k_is); (case rv1 => kernel_rfl); (case iC1 => k_is); (case l11 => k_is); (case c11 => k_is); (case bd1 => exact fun _ _ => rfl); (case sc1 => exact fun L => ⟨_, rfl⟩); (case cd1 => k_is); (case vf1 => rfl); (case pf1 => kernel_rfl); (case cL1 => k_is); (case eB1 => kernel_rfl); (case ho1 => k_is); (case su1 => k_is); (case fok1 => exact ⟨by decide +kernel, by decide +kernel, by decide +kernel, by decide +kernel⟩); (case top1 => kernel_rfl)
    (case paIT => k_is); (case plIT => k_is); (case pcIT => k_is); (case pkIT => k_is)
    (case paCT => k_is); (case plCT => k_is); (case pcCT => k_is); (case pkCT => k_is)
    (case paCTS => k_is); (case plCTS => k_is); (case pcCTS => k_is); (case pkCTS => k_is)
    (case paRO => k_is); (case plRO => k_is); (case pcRO => k_is); (case pkRO => k_is)
    (case paRL => k_is); (case plRL => k_is); (case pcRL => k_is); (case pkRL => k_is)
    (case paRW => k_is); (case plRW => k_is); (case pcRW => k_is); (case pkRW => k_is)
    (case paEN => k_is); (case plEN => k_is); (case pcEN => k_is); (case pkEN => k_is)
    (case paSF => k_is); (case plSF => k_is); (case pcSF => k_is); (case pkSF => k_is)
    (case paTN => k_is); (case plTN => k_is); (case pcTN => k_is); (case pkTN => k_is)
    (case paW => k_is); (case plW => k_is); (case pcW => k_is); (case pkW => k_is)
    (case paDR => k_is); (case plDR => k_is); (case pcDR => k_is); (case pkDR => k_is)
    (case paCO => k_is); (case plCO => k_is); (case pcCO => k_is); (case pkCO => k_is)
    (case paWO => k_is); (case plWO => k_is); (case pcWO => k_is); (case pkWO => k_is)
    (case paZ => k_is); (case plZ => k_is); (case pcZ => k_is); (case pkZ => k_is)
    (case y1 => k_is)
    (case y2 => k_is)
    (case z1 => k_is); (case z2 => k_is); (case z3 => k_is); (case z4 => k_is); (case z5 => k_is); (case z6 => k_is); (case z7 => k_is); (case z8 => k_is); (case z9 => k_is); (case z10 => k_is); (case z11 => k_is); (case z12 => k_is); (case z13 => k_is)
