import PyProof.Rows.All
import Wide.All
import OpenK.AllK
import Wide.FinOn
import KE.KExcSuper
import HandS.ForMost
import HandS.Exc
import HandS.ExcInit
import HandS.ExcField
import HandS.ExcValue
import HandS.Style
import HandS.Walk
import HandS.IsInst
import HandS.More
import KE.KExcIs
import PyProof.NeKinds
import KE.KEqDict
import HandS.ExcIs
import HandS.Wide
import HandS.Gcd
import HandS.TryOnly
import KE.KMathGC
import PyProof.AutoIntOps
import HandS.Strs
import PyProof.StrWalks
import PyProof.StrBlock2
import PyProof.FitsStr
import HandS.Comp
import HandS.Words
import HandS.Codes
import HandS.TryMany
import HandS.Lambda
import HandS.EndTab
import KE.SortData
import KE.DataMinMax
import PyProof.StrLawsFirst
import KE.KEqSeq
import HandS.TupAny
import HandS.Conv
import HandS.Iter
import HandS.SetFor
import HandS.Zip
import PyProof.Rows.ChunkLeaf
import PySem.Challenge.RW_turnindex_k46_whole_statistics_of_texts
set_option Elab.async false
set_option linter.all false
set_option maxRecDepth 100000
set_option maxHeartbeats 4000000
/-! ErrKit: an error class of the program: __init__ says super().__init__(text), then keeps its one value. -/
namespace EK
open PySem PySem.W PySem.Calls PyProof.Rows PySem.HandSPX L2
/-! ### the text of such an __init__ -/
def eArgs (f : Str) (p1 p2 : Pos) : Arguments := { posonlyargs := [], args := [{ arg := "self", annotation := none, pos := p1 }, { arg := f, annotation := none, pos := p2 }], vararg := none, kwonlyargs := [], kw_defaults := [], kwarg := none, defaults := [] }
def eBody (f msg : Str) (a1 a2 a3 a4 a5 a6 b1 b2 b3 b4 : Pos) : List Stmt :=
  [.Expr (.Call (.Attribute (.Call (.Name "super" a1) [] [] a2) "__init__" a3) [.Constant (.str msg) 0 a4] [] a5) a6, .Assign [.Attribute (.Name "self" b1) f b2] (.Name f b3) b4]
def eScope (f : Str) : Scope := { kind := .function, names := [(PySem.Str.ofString "self", .local), (f, .local), (PySem.Str.ofString "__class__", .free), (PySem.Str.ofString "super", .globalImplicit)], isGenerator := false, isCoroutine := false, more := [] }

/-- the row super().__init__(msg) of the text, as a call of a method -/
def SupCall (a1 a2 a3 a4 a5 : Pos) (msg : Str) (env : Env) : Prop := ∃ pl : Sem Bool,
  eval (.Call (.Attribute (.Call (.Name "super" a1) [] [] a2) "__init__" a3) [.Constant (.str msg) 0 a4] [] a5) env = (do
    let ov ← attributeBase (.Call (.Name "super" a1) [] [] a2) "__init__" env (eval (.Call (.Name "super" a1) [] [] a2) env)
    standAt a3.atName
    let (g, first) ← holding [ov] (getMethod ov "__init__" pl)
    callWith a5 g first (backTo a5 (starEach [.Constant (.str msg) 0 a4] env)) [])
/-- what the top has written of the class x at C, of its __init__ at fI -/
structure ErrTxt (P : Program) (K : Frag) (mg : Str → Option Value) (x f : Str) (C fI : Addr) : Prop where
  gC : mg x = some (.ref C)
  cls : ∃ nm q N bs bm sn sub ab col dd k0 k1 k2 k3 k5, K.lookup C = some (excClassObj nm q C N bs bm true sn sub ab col dd k0 k1 k2 k3 k5 "ValueError.__new__") ∧ refsVE bm = true
  sa : findIn K (.ref C) "__setattr__" = some (some (.builtin "object.__setattr__"))
  ga : findIn K (.ref C) "__getattribute__" = some (some (.builtin "BaseException.__getattribute__"))
  gg : findIn K (.ref C) "__getattr__" = some none
  noN : findIn K (.ref C) f = some none
  iC : findIn K (.ref C) "__init__" = some (some (.ref fI))
  tC : typeIn K (.ref fI) = some (.type "function")
  kC : keepIn K (.ref C) = true
  exC : subIn K (.ref C) (.type "BaseException") = some true
  tyC : typeIn K (.ref C) = some (.type "type")
  hdC : hasDictIn K C = true
  te : exmOne K (.ref C) (.ref C) = some true
  hB : subIn K (.ref C) (.type "ValueError") = some true
  si : ks_superIn K C C "__init__" = some (some (.builtin "ValueError.__init__"))
  ho : nsIn K cStatics "thirdparty.any" = some none
  su : mg "super" = none
  mC : mroIn K C (.ref C) = some true
  fok : f ≠ "self" ∧ f ≠ "__class__" ∧ f ≠ "super" ∧ f ≠ "__debug__"
  top : (P.main.scope.names.lookup ("super" : Str)).isSome = false
  fn : ∃ (oc : Value) (od : Option Addr) (qn msg : Str) (doc pm : Value) (an : Option Addr) (cda cc : Addr) (ct : Value) (osl : Array (Option Value)) (p1 p2 a1 a2 a3 a4 a5 a6 b1 b2 b3 b4 : Pos),
    K.lookup fI = some ⟨oc, od, .func (ksFn "__init__" qn (eArgs f p1 p2) (eBody f msg a1 a2 a3 a4 a5 a6 b1 b2 b3 b4) (eScope f) .none .none doc pm an (.ref cda) ct cc), osl⟩ ∧ codeIn K (.ref cda) qn = true ∧
    (∀ u v : Value, bindArgs (ksFn "__init__" qn (eArgs f p1 p2) (eBody f msg a1 a2 a3 a4 a5 a6 b1 b2 b3 b4) (eScope f) .none .none doc pm an (.ref cda) ct cc) ⟨[u, v], []⟩ = pure [(("self" : Str), u), (f, v)]) ∧
    (∀ L : Addr, SupCall a1 a2 a3 a4 a5 msg (callEnv (ksFn "__init__" qn (eArgs f p1 p2) (eBody f msg a1 a2 a3 a4 a5 a6 b1 b2 b3 b4) (eScope f) .none .none doc pm an (.ref cda) ct cc) L fI)) ∧
    (∃ (ccl : Value) (cdd : Option Addr) (ccs : Array (Option Value)) (vs : Array Value) (file : Str) (tf : Tok), K.lookup cda = some ⟨ccl, cdd, .fields vs, ccs⟩ ∧ vs[2]? = some (.str file tf) ∧ ((P.main.file : Str) == file) = true) ∧
    ∃ (cl : Value) (cld : Option Addr) (csl : Array (Option Value)), K.lookup cc = some ⟨cl, cld, .cell (some (.ref C)), csl⟩
theorem one_size (v : Value) : [v].length ≤ sizeLine := by
  rw [sizeLine_eq]
  exact (by decide : 1 ≤ 16777216)
/-- what __init__ leaves of the exception at y -/
structure MadeI (h h' : Heap) (y C dx : Addr) (f : Str) (v : Value) : Prop where
  keep : ∀ b o, b ≠ y → h.get? b = some o → h'.get? b = some o
  obj : ∃ t1 : Addr, h'.get? y = some { cls := .ref C, dict := some dx, data := .fields #[.ref t1, .none, .none, .none, .bool false, .none] }
  dbig : h.objs.size ≤ dx
  dne : dx ≠ y
  ns : h'.Ns1 dx (fun z => if z = f then some v else none)
theorem kept_but {K : Frag} {h h' : Heap} {x : Addr} (X : K.In h) (hx : K.lookup x = none) (k : ∀ b o, b ≠ x → h.get? b = some o → h'.get? b = some o) : K.In h' := fun a o e =>
  k a o (fun z => by rw [z, hx] at e; cases e) (X a o e)
section
variable {prog : Program} {w : World} {A : Around} {E : Value → Shared → Prop} {R : Result → Shared → Prop} {s : Shared} {K : Frag} {mg : Str → Option Value} {C fI : Addr} {x f : Str}
/-- the method-wrapper that super().__init__ gives is called -/
theorem call_mw {u e t0 : Addr} {rest : List Value} {nm q : Str} {C N : Addr} {bs bm : List Value} {hdct : Bool} {sn : List Str} {sub : List Value} {ab : Bool} {col : Option Bool} {dd : Option Addr} {k0 k1 k2 k3 k5 : Option Value} {Q : Value → Shared → Prop}
    (hC : s.heap.get? C = some (excClassObj nm q C N bs bm hdct sn sub ab col dd k0 k1 k2 k3 k5 "ValueError.__new__")) (he : s.heap.get? e = some (excO C t0)) (hu : s.heap.get? u = some (kxs_mw "ValueError.__init__" e)) (hrest : rest.length ≤ sizeLine)
    (hq : ∀ h' t1, (∀ b o, b ≠ e → s.heap.get? b = some o → h'.get? b = some o) → h'.get? e = some (excO C t1) → Q .none { s with heap := h' }) :
    wpAny (model prog w) A (call (.ref u) rest) Q E s := by
  obtain ⟨hh, g, d, tk, os⟩ := s
  refine wpAny_call (codeAny_of_tree ?_)
  show wpAny _ A.in1 (callAny (.ref u) ⟨rest, []⟩) _ _ _
  simp only [callAny]
  refine wpAny_bind (wpAny_load hu ?_)
  simp only [kxs_mw, show (Value.type "method-wrapper" == Value.type "method" || Value.type "method-wrapper" == Value.type "builtin_function_or_method" || Value.type "method-wrapper" == Value.type "method-wrapper") = true by decide, if_true]
  refine KFB.if_so (by decide) ?_
  refine wpAny_bind (check_bound_init F.excBase_ValueError.toExcCallFacts hC he rfl ?_)
  refine wpAny_bind (wpAny_pure (wpAny_pure ?_))
  refine ⟨plainId_quiet F.excBase_ValueError.init.plain _, codeAny_builtin F.excBase_ValueError.initEntry ?_⟩
  exact exc_init_tree (cls := .ref C) (t0 := t0) (dv := none) (c2 := .none) (c3 := .none) (b4 := .bool false) he hrest fun h' k o _ => hq h' _ k o
theorem look_self (f : Str) : (eScope f).names.lookup ("self" : Str) = some .local := by
  show List.lookup ("self" : Str) ((("self" : Str), NameKind.local) :: _) = _
  rw [List.lookup_cons]
  simp
theorem look_f {f : Str} (h : f ≠ "self") : (eScope f).names.lookup f = some .local := by
  have e : (f == ("self" : Str)) = false := by simpa using h
  show List.lookup f ((("self" : Str), NameKind.local) :: (f, NameKind.local) :: _) = _
  rw [List.lookup_cons, e, List.lookup_cons]
  simp
theorem look_cls {f : Str} (h : f ≠ "__class__") : (eScope f).names.lookup ("__class__" : Str) = some .free := by
  have e : ((("__class__" : Str)) == f) = false := by simpa using Ne.symm h
  have e2 : ((("__class__" : Str)) == ("self" : Str)) = false := by decide +kernel
  show List.lookup ("__class__" : Str) ((("self" : Str), NameKind.local) :: (f, NameKind.local) :: (("__class__" : Str), NameKind.free) :: _) = _
  rw [List.lookup_cons, e2, List.lookup_cons, e, List.lookup_cons]
  simp
theorem look_super {f : Str} (h : f ≠ "super") : (eScope f).names.lookup ("super" : Str) = some .globalImplicit := by
  have e : ((("super" : Str)) == f) = false := by simpa using Ne.symm h
  have e2 : ((("super" : Str)) == ("self" : Str)) = false := by decide +kernel
  have e3 : ((("super" : Str)) == ("__class__" : Str)) = false := by decide +kernel
  show List.lookup ("super" : Str) ((("self" : Str), NameKind.local) :: (f, NameKind.local) :: (("__class__" : Str), NameKind.free) :: (("super" : Str), NameKind.globalImplicit) :: []) = _
  rw [List.lookup_cons, e2, List.lookup_cons, e, List.lookup_cons, e3, List.lookup_cons]
  simp
theorem bl_self {f : Str} (h : f ≠ "self") (a v : Value) : List.lookup ("self" : Str) ([(("self" : Str), a), (f, v)].reverse) = some a := by
  have e : ((("self" : Str)) == f) = false := by simpa using Ne.symm h
  show List.lookup ("self" : Str) ((f, v) :: (("self" : Str), a) :: []) = _
  rw [List.lookup_cons, e, List.lookup_cons]
  simp
theorem bl_f {f : Str} (a v : Value) : List.lookup f ([(("self" : Str), a), (f, v)].reverse) = some v := by
  show List.lookup f ((f, v) :: (("self" : Str), a) :: []) = _
  rw [List.lookup_cons]
  simp
theorem err_init (T : ErrTxt prog K mg x f C fI) {y t0 : Addr} {v : Value} (X : K.In s.heap) (hlim : s.heap.NoLimit) (hg : s.heap.Ns mainGlobals mg) (hb : ∃ mb, s.heap.Ns builtinsNs mb ∧ ∀ z : Str, z ≠ "__name__" → mb z = bootBuiltins z)
    (hx : s.heap.get? y = some (excO C t0)) (hnx : K.lookup y = none) (hroom : A.depth < recursionLimit)
    (hq : ∀ h' tk dx, MadeI s.heap h' y C dx f v → R (.ok (.ret .none)) { s with heap := h', toks := tk }) :
    codeAny (model prog w) A (.call (.ref fI) ⟨[.ref y, v], []⟩) R s := by
  obtain ⟨oc, od, qn, msg, doc, pm, an, cda, cc, ct, osl, p1, p2, a1, a2, a3, a4, a5, a6, b1, b2, b3, b4, ho, hcd, hB, hS, ⟨ccl, cdd, ccs, vs, file, tf, hcda, hvs, hfile⟩, ⟨cl, cld, csl, hcell⟩⟩ := T.fn
  obtain ⟨nm, q, N, bs, bm, sn, sub, ab, col, dd, k0, k1, k2, k3, k5, hC, hbm⟩ := T.cls
  obtain ⟨mb, hbn, hbv⟩ := hb
  obtain ⟨hf1, hf2, hf3, hf4⟩ := T.fok
  have hcl : clsIn K C = some { name := nm, bases := bs, mro := .ref C :: bm, ns := N, qualname := q, hasDict := true, slotNames := sn, subclasses := sub, abstract := ab, collection := col, hasDel := false } := by unfold clsIn; rw [hC] <;> rfl
  refine ks_codeAny_call_defAt (fd := ksFn "__init__" qn (eArgs f p1 p2) (eBody f msg a1 a2 a3 a4 a5 a6 b1 b2 b3 b4) (eScope f) .none .none doc pm an (.ref cda) ct cc) (body := eBody f msg a1 a2 a3 a4 a5 a6 b1 b2 b3 b4) (binds := [(("self" : Str), Value.ref y), (f, v)]) hroom (X _ _ ho) rfl hlim (codeRec_of X hcd) rfl (BindsTo.of_eq (hB _ _)) ?_ ?_ (fun h₁ hns k => ?_) rfl rfl rfl
  · intro z hz
    rcases List.mem_cons.mp hz with rfl | hz
    · exact fun e => nomatch e
    rcases List.mem_cons.mp hz with rfl | hz
    · exact fun e => nomatch e
    rcases List.mem_cons.mp hz with rfl | hz
    · exact fun e => nomatch e
    rcases List.mem_cons.mp hz with rfl | hz
    · exact fun e => nomatch e
    · cases hz
  · intro z hz
    rcases List.mem_cons.mp hz with rfl | hz
    · exact look_self f
    rcases List.mem_cons.mp hz with rfl | hz
    · exact look_f hf1
    · cases hz
  · have X₁ : K.In h₁ := X.keeps k
    have hyL : s.heap.objs.size ≠ y := Nat.ne_of_gt (Heap.lt_size hx)
    have ks : (callEnv (ksFn "__init__" qn (eArgs f p1 p2) (eBody f msg a1 a2 a3 a4 a5 a6 b1 b2 b3 b4) (eScope f) .none .none doc pm an (.ref cda) ct cc) s.heap.objs.size fI).kindOf "super" = some .globalImplicit := look_super hf3
    obtain ⟨oD, hD⟩ : ∃ oD, h₁.get? C = some oD ∧ ∃ cd : ClassData, oD.data = .cls cd := ⟨_, X₁ _ _ hC, _, rfl⟩
    obtain ⟨hD1, cdD, hD2⟩ := hD
    have IY : ∀ {h : Heap}, h.get? y = some (excO C t0) → InstAt h y (excO C t0) C none := fun e => ⟨e, rfl, rfl, trivial⟩
    have hyC : y ≠ C := fun z => by rw [z, hC] at hnx; cases hnx
    obtain ⟨pl, hpl⟩ := hS s.heap.objs.size
    refine ks_wpAt_execs_cons (ks_wpAt_Expr_any (ks_wpAt_MethodCall ?_ hpl) (by rfl) (by rfl))
    refine ks_wpAt_super_base ks (look_cls hf2) (by decide +kernel) rfl (X₁ _ _ ho) rfl rfl rfl (X₁ _ _ hcda) rfl hvs hfile T.top ?_
    refine ks_loadName_global rfl ks (loadGlobal_builtin (hg.keeps k) T.su (hbn.keeps k) (hbv _ (by decide +kernel)) ⟨by rfl, ?_⟩)
    refine wpAny_loadName_free rfl (look_cls hf2) rfl ⟨_, X₁ _ _ hcell, rfl⟩ ?_
    refine wpAny_loadName_local rfl (look_self f) hns (bl_self hf1 _ _) ?_
    refine ks_wpAny_isType_cls hD1 hD2 ⟨rfl, ?_⟩
    refine ks_wpAny_call_super hD1 hD2 (k _ _ hx) rfl (fun c e => nomatch e) (looks_mroIn X₁ T.mC) (fun h2 hso k2 => ?_)
    have X2 : K.In h2 := X₁.keeps k2
    refine kxs_getMethod kxs_ValueError hso (looks_opaque X2 T.ho) (l₀ := .ref C :: bm) ((looks_clsIn X2 hcl).andThen .now) rfl X2 ?_ ((IY (k2 _ _ (k _ _ hx))).type.andThen (looks_subIn X2 T.hB)) hyC (by decide +kernel) ?_
    · have e := T.si
      unfold ks_superIn at e
      rw [hcl] at e
      exact e
    have k3 : ∀ b o, h2.get? b = some o → (h2.push (kxs_mw "ValueError.__init__" y)).get? b = some o := fun b o e => Heap.get?_push_of_some _ e
    have hu : (h2.push (kxs_mw "ValueError.__init__" y)).get? h2.objs.size = some (kxs_mw "ValueError.__init__" y) := Heap.get?_push_at rfl rfl
    refine kxs_callWith (i := "ValueError.__init__") (x := y) (by rfl) (evalArgs_plain (Calls.spliced_cons (Calls.Constant_str (k := 0) (pos := a4) (Calls.spliced_nil ⟨hu, ?_⟩))))
    refine call_mw (X2.keeps k3 _ _ hC) (k3 _ _ (k2 _ _ (k _ _ hx))) hu (one_size _) fun h4 t1 k4 hy4 => ?_
    have X4 : K.In h4 := kept_but (X2.keeps k3) hnx k4
    have kk : ∀ b o, b ≠ y → h₁.get? b = some o → h4.get? b = some o := fun b o n e => k4 b o n (k3 b o (k2 b o e))
    have n4 : h4.Ns s.heap.objs.size fun z => [(("self" : Str), Value.ref y), (f, v)].reverse.lookup z := by
      obtain ⟨o, es, ep, e1, r⟩ := hns
      exact ⟨o, es, ep, kk _ _ hyL e1, r⟩
    have hfd : (f == ("__debug__" : Str)) = false := by simpa using hf4
    refine wpAt_of_wpAny (wpAny_execs_cons (plainObj_wpAny_Assign_Attribute ?_))
    refine wpAny_Name (wpAny_loadName_local rfl (look_f hf1) n4 (bl_f _ _) ?_) hfd
    refine wpAny_Name (wpAny_loadName_local rfl (look_self f) n4 (bl_self hf1 _ _) ?_) (by decide +kernel)
    refine set_plain X4 (ox := excO C t1) (od := none) ⟨hy4, rfl, rfl, trivial⟩ T.sa ?_
    refine exc_osa X4 hy4 hcl (show refsVE (.ref C :: bm) = true from hbm) rfl T.noN (fun h5 tk5 dx k5 dn dne hx5 hn5 => ?_)
    refine wpAny_execs_nil (hq h5 tk5 dx ⟨fun b o hb e => k5 b o hb (kk b o hb (k b o e)), ⟨_, hx5⟩, ?_, dne, hn5⟩)
    have z1 : s.heap.objs.size < h4.objs.size := n4.lt
    exact Nat.le_of_lt (Nat.lt_of_lt_of_le z1 dn)
/-- an error that was made: the object at e, its own dict at d -/
structure MadeE (h h' : Heap) (e C d : Addr) (f : Str) (v : Value) : Prop where
  keep : ∀ b o, h.get? b = some o → h'.get? b = some o
  new : h.objs.size ≤ e
  obj : ∃ t1 : Addr, h'.get? e = some { cls := .ref C, dict := some d, data := .fields #[.ref t1, .none, .none, .none, .bool false, .none] }
  dbig : h.objs.size ≤ d
  dne : d ≠ e
  ns : h'.Ns1 d (fun z => if z = f then some v else none)
theorem not_in {K : Frag} {h : Heap} {a : Addr} (X : K.In h) (ha : h.objs.size ≤ a) : K.lookup a = none := by
  cases e : K.lookup a with
  | none => rfl
  | some o => exact absurd (Nat.lt_of_lt_of_le (Heap.lt_size (X _ _ e)) ha) (Nat.lt_irrefl _)
theorem err_made (T : ErrTxt prog K mg x f C fI) {v : Value} (X : K.In s.heap) (hlim : s.heap.NoLimit) (hg : s.heap.Ns mainGlobals mg) (hb : ∃ mb, s.heap.Ns builtinsNs mb ∧ ∀ z : Str, z ≠ "__name__" → mb z = bootBuiltins z)
    (hroom : A.depth + 1 < recursionLimit) (hq : ∀ h' tk e d, MadeE s.heap h' e C d f v → R (.ok (.ret (.ref e))) { s with heap := h', toks := tk }) :
    codeAny (model prog w) A (.call (.ref C) ⟨[v], []⟩) R s := by
  obtain ⟨nm, q, N, bs, bm, sn, sub, ab, col, dd, k0, k1, k2, k3, k5, hC, hbm⟩ := T.cls
  obtain ⟨mb, hbn, hbv⟩ := hb
  obtain ⟨hp, g, dr, tk, os⟩ := s
  have k : ∀ b o, hp.get? b = some o → ((hp.push (kdv_tup [v])).push (excO C hp.objs.size)).get? b = some o := fun b o e => Heap.get?_push_of_some _ (Heap.get?_push_of_some _ e)
  have hget : ((hp.push (kdv_tup [v])).push (excO C hp.objs.size)).get? (hp.objs.size + 1) = some (excO C hp.objs.size) := by heap_get
  have hnx : K.lookup (hp.objs.size + 1) = none := not_in X (Nat.le_succ _)
  refine call_own F.excBase_ValueError (fun X => refsVE_contains X bm hbm) (X _ _ hC) (looks_findIn X T.iC) (fun self => bind_fn X self T.tC) (one_size v) ?_
  refine err_init (s := ⟨(hp.push (kdv_tup [v])).push (excO C hp.objs.size), g, dr, tk, os⟩) T (X.keeps k) (hlim.keeps k) (hg.keeps k) ⟨mb, hbn.keeps k, hbv⟩ hget hnx ?_ fun h' tk' dx ⟨k', ⟨t1, hx⟩, dn, dne, hns⟩ => ?_
  · show A.depth + 1 < recursionLimit
    exact hroom
  · have old : ∀ b o, hp.get? b = some o → h'.get? b = some o := fun b o e => k' b o (Nat.ne_of_lt (Nat.lt_succ_of_lt (Heap.lt_size e))) (k b o e)
    have z : hp.objs.size + 1 + 1 ≤ dx := by
      have q := dn
      rw [Heap.size_push, Heap.size_push] at q
      exact q
    exact ⟨rfl, hq h' tk' (hp.objs.size + 1) dx ⟨old, Nat.le_succ _, ⟨t1, hx⟩, Nat.le_trans (Nat.le_trans (Nat.le_succ _) (Nat.le_succ _)) z, dne, hns⟩⟩
end
end EK
namespace L2
open PySem PySem.Spec PyProof.Rows EK
theorem relO_one {f : Str} {v : V} {u : Value} (r : RelV v u) (g : Str) : RelO (List.lookup g [(f, v)]) (if g = f then some u else none) := relO_put (fs := []) (mA := fun _ => none) r (fun _ => True.intro) g
section
variable {X : Cx} {C fI : Addr} {x f : Str}
/-- x(e) as a value: a new error at a, its dict at d -/
def tErrV (C : Addr) (f : Str) (ta : TA) : TE := fun σ H Q => ta σ H fun vs H1 => ∃ v, vs = [v] ∧ ∀ a d, H1 a = none → H1 d = none → d ≠ a → Q (.ref a) (upd (upd H1 d (exd d [(f, v)])) a (exo a C (some d)))
theorem pe_errV {a : Expr} {ta : TA} {p pos : Pos} {k : Nat} (T : ErrTxt X.prog X.K X.mg x f C fI) (hr : Room k X.A) (ha : PA X [a] ta) (hg : Gl X x) (hd : (x == ("__debug__" : Str)) = false := by decide)
    (he : starEach (a :: []) X.env = (false, eval a X.env) :: starEach [] X.env := by rfl) (hpl : (backTo pos (starEach [] X.env)).any (·.1) = false := by rfl) :
    PE X (.Call (.Name x p) [a] [] pos) (tErrV C f ta) := by
  refine ⟨fun pins s σ H Q I h => ?_⟩
  refine wpAny_Call_Name_kw (ld_glob I hg T.gC ?_ hd)
  refine PySem.W.callWith_K (h₀ := X.base) I.ok.mod.kin T.kC (thn (ha.run pos pins s σ H _ I h) fun us s1 hh => ?_) he hpl
  obtain ⟨vs, H1, I1, r1, v, ev, q1⟩ := hh
  subst ev
  refine ⟨I1.kIn, ?_⟩
  cases r1 with
  | cons rv rn =>
    rename_i v' us'
    cases rn
    show wpAny _ _ (call (.ref C) [v']) _ _ _
    have hlim := I1.nolimit
    obtain ⟨hp, g, dr, tk, os⟩ := s1
    obtain ⟨mb, hb1, hb2⟩ := I1.mod.blt
    refine wpAny_call (err_made T I1.kIn hlim (I1.mod.glob.keeps I1.bk) ⟨mb, hb1.keeps I1.bk, hb2⟩ (by have := hr.dp; omega) fun h' tk' e d M => ?_)
    obtain ⟨t1, hoe⟩ := M.obj
    have nd : H1 d = none := I1.hok.fresh M.dbig
    have ne : H1 e = none := I1.hok.fresh M.new
    obtain ⟨G, g1, g2⟩ := restrict h' fun b => decide (b ≠ e)
    have gk : ∀ b, b ≠ e → G.get? b = h'.get? b := fun b hb => g1 b (decide_eq_true hb)
    have ge : G.get? e = none := g2 e (by simp)
    have old : ∀ b o, hp.get? b = some o → G.get? b = some o := fun b o q => (gk b (Nat.ne_of_lt (Nat.lt_of_lt_of_le (Heap.lt_size q) M.new))).trans (M.keep b o q)
    have gs : ∀ b o, G.get? b = some o → h'.get? b = some o := fun b o q => by
      by_cases hbe : b = e
      · rw [hbe, ge] at q
        cases q
      · exact (gk b hbe).symm.trans q
    have J : Inv X pins σ (upd H1 d (exd d [(f, v)])) ⟨G, g, dr, tk', os⟩ := I1.laid (t' := tk') old M.dbig (exd_ok (M.ns.at fun o q => (gk d M.dne).trans q) (relO_one rv))
    have hne : (upd H1 d (exd d [(f, v)])) e = none := by
      rw [upd_ne (Ne.symm M.dne)]
      exact ne
    exact ⟨.ref e, _, J.laidN (t' := tk') gs ge hne (exo_ok hoe), rfl, q1 e d ne nd M.dne⟩
/-- a field of an error, read -/
def tErrF (K : PySem.W.Frag) (f : Str) (te : TE) : TE := fun σ H Q => te σ H fun x H1 => ∃ (a C d : Addr) (fs : List (Str × V)) (v : V), x = .ref a ∧ H1 a = some (exo a C (some d)) ∧ H1 d = some (exd d fs) ∧ XfC K C ∧ PySem.W.findIn K (.ref C) f = some none ∧ fs.lookup f = some v ∧ Q v H1
theorem pe_errF {e : Expr} {te : TE} {pos : Pos} (he : PE X e te) (hb : attributeBase e f X.env (eval e X.env) = eval e X.env := by rfl) : PE X (.Attribute e f pos) (tErrF X.K f te) := by
  refine ⟨fun pins s σ H Q I h => ?_⟩
  refine attr_of hb (thn (he.run pins s σ H _ I h) fun u s1 hh => ?_)
  obtain ⟨y, H1, I1, ry, a, C, d, fs, v, ey, ea, ed, T, hno, l, q⟩ := hh
  subst ey
  obtain rfl : u = Value.ref a := ry
  obtain ⟨t1, ha⟩ := exo_at I1.hok ea
  obtain ⟨mA, hns, hr⟩ := exd_at I1.hok ed
  obtain ⟨od, ho, hl⟩ := lookIn_ns hns
  obtain ⟨u, hu, ru⟩ := RelO.some_of (v := v) (o := mA f) (by rw [← l]; exact hr f)
  have J : PySem.W.InstAt s1.heap a _ C (some od) := ⟨ha, rfl, rfl, ho⟩
  exact HandSPX.exc_get I1.kIn J T.ga T.gg T.exC (PySem.W.findObj_own T.hdC hno rfl (by rw [hl, hu])) (handed_of ru) ⟨v, H1, I1.tok _, ru, q⟩
end
end L2

set_option Elab.async false
set_option linter.all false
set_option maxRecDepth 100000
set_option maxHeartbeats 4000000
/-! EqKit: things that are told equal, whatever they hold; isinstance of errors. -/
namespace L2
open PySem PySem.Spec PyProof.Rows
/-- x and y compare equal, at most n deep: one thing, or lists, tuples of such -/
inductive Sm (K : PySem.W.Frag) (H : Hp) : Nat → V → V → Prop
  | rf {n : Nat} (x : V) (h : ∀ b, x ≠ .flt b) : Sm K H n x x
  | ls {n : Nat} {a b : Addr} {xs ys : List V} (h1 : SqL K H a xs) (h2 : SqL K H b ys) (hl : xs.length = ys.length) (h : ∀ (i : Nat) x y, xs[i]? = some x → ys[i]? = some y → Sm K H n x y) : Sm K H (n + 1) (.ref a) (.ref b)
  | tp {n : Nat} {a b : Addr} {xs ys : List V} (h1 : SqT K H a xs) (h2 : SqT K H b ys) (hl : xs.length = ys.length) (h : ∀ (i : Nat) x y, xs[i]? = some x → ys[i]? = some y → Sm K H n x y) : Sm K H (n + 1) (.ref a) (.ref b)
section
variable {X : Cx} {pins : List (Addr × Obj)} {σ : St} {H : Hp} {s : Shared}
theorem sm_items {xs ys : List V} {us vs : List Value} {A : Around} (rx : Vals xs us) (ry : Vals ys vs)
    (h : ∀ (i : Nat) x y, xs[i]? = some x → ys[i]? = some y → ∀ u v, RelV x u → RelV y v → SeqAt.EqAt A s u v true) :
    ∀ j (h1 : j < us.toArray.size) (h2 : j < vs.toArray.size), SeqAt.EqAt A s us.toArray[j] vs.toArray[j] true := by
  intro j h1 h2
  have l1 := rx.length
  have l2 := ry.length
  have j1 : j < xs.length := by rw [l1]; simpa using h1
  have j2 : j < ys.length := by rw [l2]; simpa using h2
  obtain ⟨u, e1, r1⟩ := rx.get (List.getElem?_eq_getElem j1)
  obtain ⟨v, e2, r2⟩ := ry.get (List.getElem?_eq_getElem j2)
  have f1 : us.toArray[j] = u := by
    have q : us[j]? = some (us[j]'(by simpa using h1)) := List.getElem?_eq_getElem _
    rw [e1] at q
    simpa using (Option.some.inj q).symm
  have f2 : vs.toArray[j] = v := by
    have q : vs[j]? = some (vs[j]'(by simpa using h2)) := List.getElem?_eq_getElem _
    rw [e2] at q
    simpa using (Option.some.inj q).symm
  rw [f1, f2]
  exact h j _ _ (List.getElem?_eq_getElem j1) (List.getElem?_eq_getElem j2) u v r1 r2
theorem all_true {n : Nat} : ((List.range n).all fun _ => true) = true := by
  induction n with
  | zero => rfl
  | succ n ih => simp
theorem sm_at (I : Inv X pins σ H s) : ∀ {n : Nat} {x y : V} {u v : Value} {A : Around}, Sm X.K H n x y → RelV x u → RelV y v → A.units + n < cLine → SeqAt.EqAt A s u v true := by
  intro n x y u v A h
  induction h generalizing u v A with
  | rf x hf =>
    intro r1 r2 _
    cases x with
    | non => cases r1; cases r2; exact .same _
    | bl b => cases r1; cases r2; exact .same _
    | int i =>
      obtain ⟨t, rfl⟩ := r1
      obtain ⟨t', rfl⟩ := r2
      have q := SeqAt.EqAt.int_int (A := A) (s := s) i t i t'
      rw [beq_self_eq_true] at q
      exact q
    | str z =>
      obtain ⟨t, rfl⟩ := r1
      obtain ⟨t', rfl⟩ := r2
      have q := SeqAt.EqAt.str_str (A := A) (s := s) z t z t'
      rw [beq_self_eq_true] at q
      exact q
    | byt b =>
      obtain ⟨t, rfl⟩ := (show ∃ t, u = Value.bytes b t from r1)
      obtain ⟨t', rfl⟩ := (show ∃ t, v = Value.bytes b t from r2)
      exact fun prog w E Q h => PySem.W.eqBool_bytes (by simpa using h)
    | flt b => exact absurd rfl (hf b)
    | ref a => cases r1; cases r2; exact .same _
    | ty n => cases r1; cases r2; exact .same _
  | @ls n a b xs ys h1 h2 hl _ ih =>
    intro r1 r2 hu
    cases r1; cases r2
    by_cases e : a = b
    · rw [e]; exact .same _
    · obtain ⟨us, ru, ⟨o, m, ho, hc, _, hd⟩, _⟩ := I.list h1
      obtain ⟨vs, rv, ⟨o', m', ho', hc', _, hd'⟩, _⟩ := I.list h2
      have hs : us.toArray.size = vs.toArray.size := by simp only [List.size_toArray]; rw [← ru.length, ← rv.length, hl]
      refine .of_refs e ?_
      have q := SeqAt.RcAt.lists (A := A) (s := s) (e := fun _ => true) ⟨o, ho, hc, m, hd⟩ ⟨o', ho', hc', m', hd'⟩ hs (by omega) (sm_items (A := A.in1) ru rv fun i x y e1 e2 u v s1 s2 => ih i x y e1 e2 s1 s2 (by show A.units + 1 + n < cLine; omega))
      rw [all_true] at q
      exact q
  | @tp n a b xs ys h1 h2 hl _ ih =>
    intro r1 r2 hu
    cases r1; cases r2
    by_cases e : a = b
    · rw [e]; exact .same _
    · obtain ⟨us, ru, ⟨o, ho, hc, m, hd⟩, _⟩ := I.tuple h1
      obtain ⟨vs, rv, ⟨o', ho', hc', m', hd'⟩, _⟩ := I.tuple h2
      have hs : us.toArray.size = vs.toArray.size := by simp only [List.size_toArray]; rw [← ru.length, ← rv.length, hl]
      refine .of_refs e ?_
      have q := SeqAt.RcAt.tuples (A := A) (s := s) (e := fun _ => true) ⟨o, ho, hc, m, hd⟩ ⟨o', ho', hc', m', hd'⟩ (by omega) (sm_items (A := A.in1) ru rv fun i x y e1 e2 u v s1 s2 => ih i x y e1 e2 s1 s2 (by show A.units + 1 + n < cLine; omega))
      rw [all_true, hs, beq_self_eq_true] at q
      exact q
/-- what may stand on both sides of a comparison that is told equal -/
inductive SmT (K : PySem.W.Frag) (H : Hp) : V → V → Prop
  | sc (x : V) (h : scal x x = true) : SmT K H x x
  | ls {a b : Addr} {xs ys : List V} (h1 : SqL K H a xs) (h2 : SqL K H b ys) (hl : xs.length = ys.length) (h : ∀ (i : Nat) x y, xs[i]? = some x → ys[i]? = some y → Sm K H 60 x y) : SmT K H (.ref a) (.ref b)
  | tp {a b : Addr} {xs ys : List V} (h1 : SqT K H a xs) (h2 : SqT K H b ys) (hl : xs.length = ys.length) (h : ∀ (i : Nat) x y, xs[i]? = some x → ys[i]? = some y → Sm K H 60 x y) : SmT K H (.ref a) (.ref b)
  | dk {a b : Addr} {kvs : List (Key × V)} (h1 : H a = some (.dK kvs)) (h2 : H b = some (.dK kvs)) (nd : (kvs.map (·.1)).Nodup) (fl : ∀ p ∈ kvs, flatB p.2 = true) : SmT K H (.ref a) (.ref b)
theorem op_neS (hu : X.A.units + 64 < cLine) : OpR X (compareOp .NotEq) (fun x y H Q => SmT X.K H x y ∧ Q (.bl false) H) := by
  intro pins s σ H x y v u Q I rx ry ⟨h, q⟩
  cases h with
  | sc x h => exact op_ne pins s σ H x x v u Q I rx ry ⟨h, by rw [decide_eq_true rfl]; exact q⟩
  | ls h1 h2 hl h =>
    cases rx; cases ry
    obtain ⟨us, ru, ⟨o, m, ho, hc, _, hd⟩, _⟩ := I.list h1
    obtain ⟨vs, rv, ⟨o', m', ho', hc', _, hd'⟩, _⟩ := I.list h2
    have hs : us.toArray.size = vs.toArray.size := by simp only [List.size_toArray]; rw [← ru.length, ← rv.length, hl]
    have z := SeqAt.RcNeAt.lists (A := X.A) (s := s) (e := fun _ => true) ⟨o, ho, hc, m, hd⟩ ⟨o', ho', hc', m', hd'⟩ hs (by omega) (sm_items (A := X.A.in1) ru rv fun i x y e1 e2 u v s1 s2 => sm_at I (h i x y e1 e2) s1 s2 (by show X.A.units + 1 + 60 < cLine; omega))
    rw [all_true] at z
    exact z X.prog X.w _ _ ⟨.bl false, H, I, rfl, q⟩
  | tp h1 h2 hl h =>
    cases rx; cases ry
    obtain ⟨us, ru, ⟨o, ho, hc, m, hd⟩, _⟩ := I.tuple h1
    obtain ⟨vs, rv, ⟨o', ho', hc', m', hd'⟩, _⟩ := I.tuple h2
    have hs : us.toArray.size = vs.toArray.size := by simp only [List.size_toArray]; rw [← ru.length, ← rv.length, hl]
    have z := SeqAt.RcNeAt.tuples (A := X.A) (s := s) (e := fun _ => true) ⟨o, ho, hc, m, hd⟩ ⟨o', ho', hc', m', hd'⟩ (by omega) (sm_items (A := X.A.in1) ru rv fun i x y e1 e2 u v s1 s2 => sm_at I (h i x y e1 e2) s1 s2 (by show X.A.units + 1 + 60 < cLine; omega))
    rw [all_true, hs, beq_self_eq_true] at z
    exact z X.prog X.w _ _ ⟨.bl false, H, I, rfl, q⟩
  | @dk a b kvs h1 h2 nd fl =>
    cases rx; cases ry
    obtain ⟨_, ya, va, ra, da⟩ := (show ObjOk X.prog X.w H s.heap a (.dK kvs) from I.hok a _ h1)
    obtain ⟨_, yb, vb, rb, db⟩ := (show ObjOk X.prog X.w H s.heap b (.dK kvs) from I.hok b _ h2)
    have hl : va.length = vb.length := ra.length.symm.trans rb.length
    exact PySem.W.keq_ne (knd := mixKind X.prog X.w) (r := true) ya yb da db (by omega) (fun _ => hits_all rb ra fun p hp => ⟨val_nodup nd p hp, fl p hp⟩) (fin_bl I q (by simp [hl]))
theorem op_eqS (hu : X.A.units + 64 < cLine) : OpR X (compareOp .Eq) (fun x y H Q => SmT X.K H x y ∧ Q (.bl true) H) := by
  intro pins s σ H x y v u Q I rx ry ⟨h, q⟩
  cases h with
  | sc x h => exact op_eq pins s σ H x x v u Q I rx ry ⟨h, by rw [decide_eq_true rfl]; exact q⟩
  | ls h1 h2 hl h =>
    cases rx; cases ry
    obtain ⟨us, ru, ⟨o, m, ho, hc, _, hd⟩, _⟩ := I.list h1
    obtain ⟨vs, rv, ⟨o', m', ho', hc', _, hd'⟩, _⟩ := I.list h2
    have hs : us.toArray.size = vs.toArray.size := by simp only [List.size_toArray]; rw [← ru.length, ← rv.length, hl]
    have z := SeqAt.RcAt.lists (A := X.A) (s := s) (e := fun _ => true) ⟨o, ho, hc, m, hd⟩ ⟨o', ho', hc', m', hd'⟩ hs (by omega) (sm_items (A := X.A.in1) ru rv fun i x y e1 e2 u v s1 s2 => sm_at I (h i x y e1 e2) s1 s2 (by show X.A.units + 1 + 60 < cLine; omega))
    rw [all_true] at z
    exact z X.prog X.w _ _ ⟨.bl true, H, I, rfl, q⟩
  | tp h1 h2 hl h =>
    cases rx; cases ry
    obtain ⟨us, ru, ⟨o, ho, hc, m, hd⟩, _⟩ := I.tuple h1
    obtain ⟨vs, rv, ⟨o', ho', hc', m', hd'⟩, _⟩ := I.tuple h2
    have hs : us.toArray.size = vs.toArray.size := by simp only [List.size_toArray]; rw [← ru.length, ← rv.length, hl]
    have z := SeqAt.RcAt.tuples (A := X.A) (s := s) (e := fun _ => true) ⟨o, ho, hc, m, hd⟩ ⟨o', ho', hc', m', hd'⟩ (by omega) (sm_items (A := X.A.in1) ru rv fun i x y e1 e2 u v s1 s2 => sm_at I (h i x y e1 e2) s1 s2 (by show X.A.units + 1 + 60 < cLine; omega))
    rw [all_true, hs, beq_self_eq_true] at z
    exact z X.prog X.w _ _ ⟨.bl true, H, I, rfl, q⟩
  | @dk a b kvs h1 h2 nd fl =>
    exact op_eq_dict (by omega) pins s σ H _ _ v u Q I rx ry ⟨a, b, kvs, rfl, rfl, h1, h2, nd, fl, q⟩
/-- isinstance(e, c), e an error that is held as a value -/
def rIsErr (K : PySem.W.Frag) : List V → Hp → VK → Prop := fun xs H Q => ∃ (a C : Addr) (d : Option Addr) (fs : List (Str × V)) (c : V) (u : Value) (b : Bool), xs = [.ref a, c] ∧ H a = some (exo a C d) ∧ (∀ dd, d = some dd → H dd = some (exd dd fs)) ∧ ExcC K C ∧ ClsV c u ∧ PySem.W.kitOne K (.ref C) u = some b ∧ Q (.bl b) H
theorem call_isErr : CallR X (.builtin "isinstance") (rIsErr X.K) := by
  intro pins s σ H xs us Q I r h
  obtain ⟨a, C, d, fs, c, u, b, rfl, ea, ed, T, k, e, q⟩ := h
  obtain ⟨u1, u2, rfl, r1, r2⟩ := vals2 r
  have e2 := k.eq r2
  subst e2
  cases r1
  obtain ⟨t1, ha⟩ := exo_at I.hok ea
  have hcl : (PySem.W.clsIn X.K C).isSome = true := by
    obtain ⟨cd, hc, _⟩ := PySem.W.any_some T.hd
    rw [hc]
    rfl
  cases d with
  | none => exact PySem.W.kia_one (PySem.W.kitx_exc (od := none) hcl T.hg T.hk T.hs T.ha T.hn T.ht T.hm) I.kIn (show PySem.W.InstAt s.heap a _ C none from ⟨ha, rfl, rfl, trivial⟩) e (fun z => nomatch z) fun tk => ⟨.bl b, H, I.tok tk, rfl, q⟩
  | some dd =>
    obtain ⟨mA, ⟨od, es, ep, ho, hr⟩, _⟩ := exd_at I.hok (ed dd rfl)
    exact PySem.W.kia_one (PySem.W.kitx_exc (od := some od) hcl T.hg T.hk T.hs T.ha T.hn T.ht T.hm) I.kIn (show PySem.W.InstAt s.heap a _ C (some od) from ⟨ha, rfl, rfl, ho⟩) e (fun z => nomatch z) fun tk => ⟨.bl b, H, I.tok tk, rfl, q⟩
end
end L2

set_option Elab.async false
set_option linter.all false
set_option maxRecDepth 100000
set_option maxHeartbeats 4000000
namespace L2
open PySem EK
theorem alloc {H : Hp} {p : Addr} {o : HO} (hp : H p = none) : ∃ H1, upd H p o = H1 ∧ Same H H1 ∧ H1 p = some o :=
  ⟨_, rfl, fun b u e => by rw [upd_ne (ne_of_none e hp)]; exact e, upd_same⟩
/-- an error of the class at C stands at a, its one value v -/
def ErrAt (H : Hp) (a d C : Addr) (f : Str) (v : V) : Prop := H a = some (exo a C (some d)) ∧ H d = some (exd d [(f, v)])
theorem ErrAt.keep {H H' : Hp} {a d C : Addr} {f : Str} {v : V} (e : ErrAt H a d C f v) (s : Same H H') : ErrAt H' a d C f v := ⟨s _ _ e.1, s _ _ e.2⟩
theorem alloc_err {H : Hp} {a d C : Addr} {f : Str} {v : V} (ha : H a = none) (hd : H d = none) (hne : d ≠ a) : ∃ H1, upd (upd H d (exd d [(f, v)])) a (exo a C (some d)) = H1 ∧ Same H H1 ∧ ErrAt H1 a d C f v :=
  ⟨_, rfl, fun b u e => by rw [upd_ne (ne_of_none e ha), upd_ne (ne_of_none e hd)]; exact e, upd_same, by rw [upd_ne hne, upd_same]⟩
theorem look1 (f : Str) (v : V) : List.lookup f [(f, v)] = some v := by rw [lookup_put, if_pos rfl]
theorem _root_.EK.ErrTxt.xf {P : Program} {K : PySem.W.Frag} {mg : Str → Option Value} {x f : Str} {C fI : Addr} (T : ErrTxt P K mg x f C fI) : XfC K C := ⟨T.ga, T.gg, T.exC, T.hdC⟩
end L2

set_option Elab.async false
set_option linter.all false
set_option maxRecDepth 100000
set_option maxHeartbeats 4000000
/-! NumKit: math.factorial; x *= y, x //= y of great numbers. -/
namespace L2
open PySem PySem.Spec PyProof.Rows
theorem iteY {b : Bool} {P R : Prop} (h : b = true) (p : P) : if b = true then P else R := by rw [if_pos h]; exact p
theorem iteN {b : Bool} {P R : Prop} (h : b = false) (r : R) : if b = true then P else R := by rw [if_neg (by rw [h]; decide)]; exact r
section
variable {X : Cx}
def facI (n : Int) : Int := ((Builtin.Math.factorialNat n.toNat : Nat) : Int)
def rFact : List V → Hp → VK → Prop := fun vs H Q => ∃ a : Int, vs = [.int a] ∧ 0 ≤ a ∧ a ≤ 20000 ∧ Q (.int (facI a)) H
theorem call_fact : CallR X (.builtin "math.factorial") rFact := by
  intro pins s σ H vs us Q I r h
  obtain ⟨a, rfl, h0, h1, q⟩ := h
  obtain ⟨u, rfl, ru⟩ := vals1 r
  obtain ⟨t, rfl⟩ := ru
  exact PySem.W.mc_factorial h0 h1 fun _ => ⟨.int _, H, I.tok _, ⟨_, rfl⟩, q⟩
def ipMulW : TIp := fun x y H Q => ∃ i j, x = .int i ∧ y = .int j ∧ CMulW i j ∧ Q (.int (i * j)) H
theorem ip_mulW : PIp X .Mult ipMulW := by
  intro pins s σ H x y v u Q I r1 r2 h
  obtain ⟨i, j, rfl, rfl, hc, q⟩ := h
  obtain ⟨t, rfl⟩ := r1
  obtain ⟨t', rfl⟩ := r2
  exact AutoIntOps.imul_0 (show EP X pins σ Q (.int (i * j) s.toks) { s with toks := s.toks + 1 } from ⟨.int _, H, I.tok _, ⟨_, rfl⟩, q⟩) hc.ok
def ipFdivW : TIp := fun x y H Q => ∃ i j, x = .int i ∧ y = .int j ∧ CDivW i j ∧ Q (.int (i / j)) H
theorem ip_fdivW : PIp X .FloorDiv ipFdivW := by
  intro pins s σ H x y v u Q I r1 r2 h
  obtain ⟨i, j, rfl, rfl, hc, q⟩ := h
  obtain ⟨t, rfl⟩ := r1
  obtain ⟨t', rfl⟩ := r2
  have h1 : (0 : Int) < j := hc.1
  refine AutoIntOps.ifloordiv_1 (by simp; omega) (by rw [PyProof.noPylong_of_log2 hc.2]; simp) (show EP X pins σ Q (.int (i.fdiv j) s.toks) { s with toks := s.toks + 1 } from ⟨.int (i / j), H, I.tok _, ?_, q⟩)
  rw [Int.fdiv_eq_ediv_of_nonneg i (by omega)]
  exact ⟨_, rfl⟩
end
end L2

set_option Elab.async false
set_option linter.all false
/-! JoinKit: what comes behind two ways that meet is shown once (intro r; .. exact r.h on the first way fixes what). -/
namespace L2
structure Box (T : Prop) : Type where
  h : T
theorem join2 {A T : Prop} (f : Box T → A) (t : T) : A := f ⟨t⟩
end L2

set_option Elab.async false
set_option linter.all false
set_option maxRecDepth 100000
set_option maxHeartbeats 4000000
namespace T46
open PySem L2 EK
def top (i : Nat) : Stmt := PySem.Challenge.pw_turnindex_k46_whole_statistics_of_texts.main.body.getD i (.Pass ⟨0, 0, 0, 0⟩)
abbrev sIsText : Stmt := top 5
abbrev sCkText : Stmt := top 6
abbrev pStatistics : Stmt := top 8
abbrev sWell : Stmt := top 10
abbrev sPull : Stmt := top 11
abbrev sPick : Stmt := top 12
abbrev sText : Stmt := top 13
abbrev sAll : Stmt := top 14
abbrev sDue : Stmt := top 15
abbrev sRight : Stmt := top 16
abbrev sPieces : Stmt := top 17
abbrev sFarDue : Stmt := top 18
abbrev sLaw : Stmt := top 19
/-- an urn of draws: its own digits left, its number, how often it was asked -/
def UrnAt (H : Hp) (a : Addr) (n : Int) : Prop := ∃ w0 w1 w2 : Int, H a = some (.lst [.int w0, .int w1, .int w2]) ∧ 0 ≤ w1 ∧ w1 < 2147600000 ∧ 0 ≤ w2 ∧ w2 ≤ n
def KeepB (a : Addr) (H H' : Hp) : Prop := ∀ b o, H b = some o → b ≠ a → H' b = some o
theorem KeepB.trans {a : Addr} {H H1 H2 : Hp} (s : KeepB a H H1) (t : KeepB a H1 H2) : KeepB a H H2 := fun b o e n => t b o (s b o e n) n
def spWell (K : PySem.W.Frag) : Sp := fun vs H Q _ => ∃ (a : Addr) (ns : List Int) (k : Nat), vs = [.ref a, .int (k : Int)] ∧ SqL K H a (ns.map V.int) ∧ ns.length ≤ 63 ∧ k ≤ 10 ∧ ∀ p H', H p = none → UrnAt H' p 0 → Same H H' → Q (.ref p) H'
def spPull : Sp := fun vs H Q _ => ∃ (a : Addr) (m n : Int), vs = [.ref a, .int m] ∧ UrnAt H a n ∧ n ≤ 1000000 ∧ 0 < m ∧ m < 1073741824 ∧ ∀ (d : Int) H', 0 ≤ d → d < m → UrnAt H' a (n + 1) → KeepB a H H' → Q (.int d) H'
structure TxtU (K : PySem.W.Frag) (mg : Str → Option Value) : Prop where
  int : mg "int" = none
  len : mg "len" = none
section
variable {P : Program} {w : World} {K : PySem.W.Frag} {mg : Str → Option Value} {base : Heap}
theorem scWell : FnScope ["_law_script", "_law_k", "_law_cell"] ["_law_script", "_law_k"] (defScope sWell) := ⟨rfl, rfl, rfl, by decide +kernel, rfl, by decide +kernel, by decide +kernel⟩
theorem ok_well {f : Addr} {fd : FuncData} (F : Fun K "_law_well" "_law_well" sWell f fd) (T : TxtU K mg) : FnOk P w K mg base CX0 1 f fd ["_law_script", "_law_k"] (spWell K) := by
  refine F.ok scWell (fun vs H Q E h => ?_) (fun cdv A outer s H vs Q E hr h => ?_)
  · obtain ⟨a, ns, k, rfl, _⟩ := h
    rfl
  · obtain ⟨a, ns, n, rfl, hS, hl, hk, k⟩ := h
    have nd := scWell.nd
    have hz : sizeLine = 2 ^ 24 := sizeLine_eq
    refine ⟨_, (pss_cons (ps_set (i := 2) nd rfl (Or.inl rfl) (pe_ifExp (pt_cmpR op_lt (pv 1) (pe_callB call_len_seq (by rfl) T.len (by decide +kernel) (pa_cons (pv 0) pa_nil)) (nomark _)) (pe_ix ix_list (pv 0) (pv 1) (fun _ _ => rfl)) pe_int))
      (pss_one (ps_ret (pe_lst (pa_cons (pe_op op_mul (pv 2) (pe_callTy call_int1 (by rfl) T.int (by decide +kernel) (pa_cons (pe_cmpR op_ge (pv 2) (pe_op op_pow pe_int pe_int) (nomark _)) pa_nil))) (pa_cons (pe_op op_add (pe_op op_mod (pe_callTy call_int1 (by rfl) T.int (by decide +kernel) (pa_cons (pv 2) pa_nil)) pe_int) (pe_op op_mul pe_int (pv 1))) (pa_cons pe_int pa_nil))))))), ?_⟩
    refine ⟨_, rfl, _, rfl, a, _, rfl, .inl hS, _, _, rfl, rfl, _, rfl, ?_⟩
    apply join2
    · intro rj
      by_cases hk' : n < ns.length
      · refine iteY (decide_eq_true (by rw [List.length_map]; omega)) ?_
        refine ⟨_, rfl, _, rfl, a, _, _, _, rfl, rfl, hS, L2.atI_nat (by rw [List.getElem?_map, List.getElem?_eq_getElem hk']; rfl), ?_⟩
        generalize ns[n] = c
        revert c
        exact rj.h
      · refine iteN (decide_eq_false (by rw [List.length_map]; omega)) ?_
        exact rj.h 0
    · intro c
      refine ⟨_, rfl, _, rfl, _, _, rfl, rfl, ⟨by decide, by decide, by decide⟩, _, _, rfl, rfl, .inr ⟨_, rfl, _, _, rfl, rfl, .inr ?_, ?_⟩⟩
      · by_cases h : (10 : Int) ^ (18 : Int).toNat ≤ c
        · rw [decide_eq_true h]; decide
        · rw [decide_eq_false h]; decide
      refine ⟨_, rfl, .inl ⟨_, rfl, _, _, rfl, rfl, (by show (0 : Int) < 2147483579; decide), ?_⟩⟩
      refine ⟨_, rfl, _, _, rfl, rfl, .inl ⟨by decide, by decide⟩, _, _, rfl, rfl, (by show 3 ≤ sizeLine; decide), fun p hp => ?_⟩
      have g0 := Int.emod_nonneg c (show (2147483579 : Int) ≠ 0 by decide)
      have g1 := Int.emod_lt_of_pos c (show (0 : Int) < 2147483579 by decide)
      refine k p _ hp ⟨_, _, _, upd_same, by omega, by omega, by decide, by decide⟩ fun b o e => ?_
      rw [upd_ne (ne_of_none e hp)]
      exact e
theorem scPull : FnScope ["_law_well_here", "_law_bound", "_law_found", "_law_blend"] ["_law_well_here", "_law_bound"] (defScope sPull) := ⟨rfl, rfl, rfl, by decide +kernel, rfl, by decide +kernel, by decide +kernel⟩
theorem ok_pull {f : Addr} {fd : FuncData} (F : Fun K "_law_draw" "_law_draw" sPull f fd) (T : TxtU K mg) : FnOk P w K mg base CX0 1 f fd ["_law_well_here", "_law_bound"] spPull := by
  refine F.ok scPull (fun vs H Q E h => ?_) (fun cdv A outer s H vs Q E hr h => ?_)
  · obtain ⟨a, m, n, rfl, _⟩ := h
    rfl
  · obtain ⟨a, m, n, rfl, ⟨w0, w1, w2, ha, h1, h2, h3, h4⟩, hn, hm, hm2, k⟩ := h
    have nd := scPull.nd
    refine ⟨_, (pss_cons (ps_if (pt_cmpR op_gt (pe_ix ix_list (pv 0) pe_int (fun _ _ => rfl)) pe_int (nomark _)) (pss_cons (ps_set (i := 2) nd rfl (Or.inl rfl) (pe_op op_mod (pe_callTy call_int1 (by rfl) T.int (by decide +kernel) (pa_cons (pe_ix ix_list (pv 0) pe_int (fun _ _ => rfl)) pa_nil)) (pv 1)))
      (pss_cons (ps_asg (pe_op op_fdiv (pe_ix ix_list (pv 0) pe_int (fun _ _ => rfl)) (pv 1)) (pg_sub (pv 0) pe_int set_list))
      (pss_one (ps_ret (pv 2))))) pss_nil)
      (pss_cons (ps_asg (pe_op op_add (pe_ix ix_list (pv 0) pe_int (fun _ _ => rfl)) pe_int) (pg_sub (pv 0) pe_int set_list))
      (pss_cons (ps_set (i := 3) nd rfl (Or.inl rfl) (pe_op op_mod (pe_callTy call_int1 (by rfl) T.int (by decide +kernel) (pa_cons (pe_op op_add (pe_op op_add (pe_op op_mul (pe_ix ix_list (pv 0) pe_int (fun _ _ => rfl)) pe_int) (pe_op op_mul (pe_ix ix_list (pv 0) pe_int (fun _ _ => rfl)) pe_int)) pe_int) pa_nil)) pe_int))
      (pss_cons (ps_set (i := 3) nd rfl (Or.inl rfl) (pe_op op_mod (pe_callTy call_int1 (by rfl) T.int (by decide +kernel) (pa_cons (pe_op op_mul (pv 3) (pe_op op_add (pe_op op_fdiv (pv 3) pe_int) pe_int)) pa_nil)) pe_int))
      (pss_cons (ps_set (i := 3) nd rfl (Or.inl rfl) (pe_op op_mod (pe_callTy call_int1 (by rfl) T.int (by decide +kernel) (pa_cons (pe_op op_mul (pv 3) (pe_op op_add (pe_op op_fdiv (pv 3) pe_int) pe_int)) pa_nil)) pe_int))
      (pss_one (ps_ret (pe_op op_mod (pe_callTy call_int1 (by rfl) T.int (by decide +kernel) (pa_cons (pe_op op_fdiv (pv 3) pe_int) pa_nil)) (pv 1))))))))), ?_⟩
    refine ⟨_, rfl, a, _, 0, _, rfl, rfl, .of ha, rfl, _, _, rfl, rfl, _, rfl, ?_⟩
    refine ite2 (fun h0 => ?_) (fun h0 => ?_)
    · refine ⟨_, rfl, a, _, 0, _, rfl, rfl, .of ha, rfl, .inl ⟨_, rfl, _, rfl, _, _, rfl, rfl, hm, ?_⟩⟩
      refine ⟨_, rfl, a, _, 0, _, rfl, rfl, .of ha, rfl, _, rfl, _, _, rfl, rfl, ⟨hm, hm2⟩, _, rfl, a, _, 0, 0, rfl, rfl, ha, rfl, _, rfl, ?_⟩
      refine k _ _ (Int.emod_nonneg _ (by omega)) (Int.emod_lt_of_pos _ hm) ⟨_, _, _, upd_same, h1, h2, h3, by omega⟩ fun b o e n => ?_
      rw [upd_ne n]
      exact e
    · refine ⟨_, rfl, a, _, 2, _, rfl, rfl, .of ha, rfl, _, _, rfl, rfl, _, rfl, a, _, 2, 2, rfl, rfl, ha, rfl, ?_⟩
      have ha2 : (upd H a (.lst ([V.int w0, V.int w1, V.int w2].set 2 (V.int (w2 + 1))))) a = some (.lst [.int w0, .int w1, .int (w2 + 1)]) := upd_same
      refine ⟨_, rfl, a, _, 1, _, rfl, rfl, .of ha2, rfl, _, _, rfl, rfl, .inl ⟨by omega, by omega⟩, _, rfl, a, _, 2, _, rfl, rfl, .of ha2, rfl, _, _, rfl, rfl, .inl ⟨by omega, by omega⟩, _, _, rfl, rfl, _, _, rfl, rfl, .inl ⟨_, rfl, _, _, rfl, rfl, (by show (0 : Int) < 2147483629; decide), ?_⟩⟩
      have g0 := Int.emod_nonneg (w1 * 50207 + (w2 + 1) * 999983 + 40087) (show (2147483629 : Int) ≠ 0 by decide)
      have g1 := Int.emod_lt_of_pos (w1 * 50207 + (w2 + 1) * 999983 + 40087) (show (0 : Int) < 2147483629 by decide)
      generalize (w1 * 50207 + (w2 + 1) * 999983 + 40087) % 2147483629 = x1 at g0 g1
      refine ⟨_, rfl, _, rfl, _, _, rfl, rfl, ⟨by decide, by decide⟩, _, _, rfl, rfl, _, _, rfl, rfl, .inl ⟨by omega, by omega⟩, .inl ⟨_, rfl, _, _, rfl, rfl, (by show (0 : Int) < 2147483587; decide), ?_⟩⟩
      have g2 := Int.emod_nonneg (x1 * (x1 / 1019 + 61031)) (show (2147483587 : Int) ≠ 0 by decide)
      have g3 := Int.emod_lt_of_pos (x1 * (x1 / 1019 + 61031)) (show (0 : Int) < 2147483587 by decide)
      refine ⟨_, rfl, _, rfl, _, _, rfl, rfl, ⟨by decide, by decide⟩, _, _, rfl, rfl, _, _, rfl, rfl, .inl ⟨by omega, by omega⟩, .inl ⟨_, rfl, _, _, rfl, rfl, (by show (0 : Int) < 2147483563; decide), ?_⟩⟩
      refine ⟨_, rfl, _, _, rfl, rfl, ⟨by decide, by decide⟩, .inl ⟨_, rfl, _, rfl, _, _, rfl, rfl, hm, ?_⟩⟩
      refine k _ _ (Int.emod_nonneg _ (by omega)) (Int.emod_lt_of_pos _ hm) ⟨_, _, _, ha2, h1, h2, by omega, by omega⟩ fun b o e n => ?_
      rw [upd_ne n]
      exact e
end
end T46

set_option Elab.async false
set_option linter.all false
set_option maxRecDepth 100000
set_option maxHeartbeats 4000000
/-! SetTup: len(set(t)), t a tuple of texts. -/
namespace L2
open PySem PySem.Spec PyProof.Rows
/-- the unlike ones, in the order of their first -/
def ddS (l : List Str) : List Str := l.foldl (fun acc x => if x ∈ acc then acc else acc ++ [x]) []
theorem ddS_snoc (l : List Str) (x : Str) : ddS (l ++ [x]) = if x ∈ ddS l then ddS l else ddS l ++ [x] := by
  unfold ddS
  rw [List.foldl_append]
  rfl
theorem ddS_mem (l : List Str) (y : Str) : y ∈ ddS l ↔ y ∈ l := by
  have gen : ∀ (m acc : List Str), y ∈ m.foldl (fun acc x => if x ∈ acc then acc else acc ++ [x]) acc ↔ y ∈ acc ∨ y ∈ m := by
    intro m
    induction m with
    | nil => intro acc; simp
    | cons a m ih =>
      intro acc
      rw [List.foldl_cons, ih]
      by_cases h : a ∈ acc
      · rw [if_pos h]
        constructor
        · rintro (q | q)
          · exact .inl q
          · exact .inr (List.mem_cons_of_mem _ q)
        · rintro (q | q)
          · exact .inl q
          · rcases List.mem_cons.mp q with q | q
            · exact .inl (q ▸ h)
            · exact .inr q
      · rw [if_neg h, List.mem_append, List.mem_singleton, List.mem_cons]
        constructor
        · rintro ((q | q) | q)
          · exact .inl q
          · exact .inr (.inl q)
          · exact .inr (.inr q)
        · rintro (q | q | q)
          · exact .inl (.inl q)
          · exact .inl (.inr q)
          · exact .inr q
  have := gen l []
  simpa [ddS] using this
theorem ddS_len (l : List Str) : (ddS l).length ≤ l.length := by
  have gen : ∀ (m acc : List Str), (m.foldl (fun acc x => if x ∈ acc then acc else acc ++ [x]) acc).length ≤ acc.length + m.length := by
    intro m
    induction m with
    | nil => intro acc; exact Nat.le_refl _
    | cons a m ih =>
      intro acc
      rw [List.foldl_cons]
      refine Nat.le_trans (ih _) ?_
      split
      · rw [List.length_cons]; omega
      · rw [List.length_append, List.length_singleton, List.length_cons]; omega
  have := gen l []
  simpa [ddS] using this
section
variable {pr : Program} {w : World} {B : Around} {RR : Result → Shared → Prop} {it : Addr} {fq ww : List Addr} {GG : Array GenState → Array GenState → Prop} {m : Nat} {PP : Nat → Value → Prop} {TT : Nat → Shared → Prop}
theorem loop_texts (U : WalksS pr w B.in1 it fq ww GG m PP TT) (so : Addr) (hso : so ∉ fq) (ys : List Str) (hys : ys.length = m) (few : m < 64) (hv : ∀ i v, PP i v → ∃ t, v = .str (ys.getD i Str.empty) t) :
    ∀ (left i : Nat) (s : Shared), m - i = left → i ≤ m → TT i s → s.heap.SetOf (strKind pr w) so (fun q => decide (q ∈ ys.take i)) (ddS (ys.take i)).length →
      (∀ s', Moved (so :: ww) GG s s' → s'.heap.SetOf (strKind pr w) so (fun q => decide (q ∈ ys)) (ddS ys).length → RR (.ok (.ret .none)) s') →
      codeAny (model pr w) B (.builtin "set.update.loop" ⟨[.ref so, .ref it], []⟩) RR s := by
  have now : so ∉ ww := fun h => hso (U.sub _ h)
  have sub2 : ∀ b ∈ ww, b ∈ so :: ww := fun b hb => List.mem_cons_of_mem _ hb
  intro left
  induction left with
  | zero =>
    intro i s hl hi ht hS hR
    obtain rfl : i = m := by omega
    rw [← hys, List.take_length] at hS
    refine codeAny_builtin F.entry_set_update_loop ?_
    rw [Around.under_plainId F.plain_set_update_loop _]
    refine wpAny_bind (U.done s _ _ ht fun s' mv => ?_)
    obtain ⟨o, es, ep, tb, ho, rest⟩ := hS
    exact wpAny_pure (hR s' (mv.mono sub2) ⟨o, es, ep, tb, mv.heap so _ now ho, rest⟩)
  | succ left ih =>
    intro i s hl hi ht hS hR
    have him : i < m := by omega
    refine codeAny_builtin F.entry_set_update_loop ?_
    rw [Around.under_plainId F.plain_set_update_loop _]
    refine wpAny_bind (U.item i s _ _ him ht fun v s' hP ht' mv => ?_)
    obtain ⟨t, rfl⟩ := hv i v hP
    have hS' : s'.heap.SetOf (strKind pr w) so (fun q => decide (q ∈ ys.take i)) (ddS (ys.take i)).length := by
      obtain ⟨o, es, ep, tb, ho, rest⟩ := hS
      exact ⟨o, es, ep, tb, mv.heap so _ now ho, rest⟩
    have hlen := ddS_len (ys.take i)
    rw [List.length_take] at hlen
    refine wpAny_bind (wpAny_holding ?_)
    unfold setAdd
    refine wpAny_holding ?_
    refine wpAny_bind ((strKind pr w).pyHash (k := ys.getD i Str.empty) (strKind_is _ _ _ _) ?_)
    refine wpAny_setAddHashed_of (knd := strKind pr w) (s := { s' with toks := s'.toks + 1 }) (strKind_is _ _ _ _) rfl hS' (by unfold scanBound; omega) fun h' sb hS2 => ?_
    have ey : ys.take (i + 1) = ys.take i ++ [ys.getD i Str.empty] := by
      rw [List.take_succ, List.getD_eq_getElem?_getD, List.getElem?_eq_getElem (by omega)]
      rfl
    have hS3 : h'.SetOf (strKind pr w) so (fun q => decide (q ∈ ys.take (i + 1))) (ddS (ys.take (i + 1))).length := by
      rw [ey]
      refine SetOf_congr hS2 (fun q => ?_) ?_
      · by_cases h1 : q ∈ ys.take i
        · simp [h1]
        · simp [h1]
      · rw [ddS_snoc]
        by_cases h1 : ys.getD i Str.empty ∈ ys.take i
        · rw [if_pos ((ddS_mem _ _).mpr h1), if_pos (by simpa using h1)]
        · rw [if_neg (fun z => h1 ((ddS_mem _ _).mp z)), if_neg (by simpa using h1), List.length_append]
          rfl
    refine wpAny_pure ⟨plainId_quiet F.plain_set_update_loop _, ih (i + 1) _ (by omega) him (U.frame _ s' _ _ ht' (Nat.le_succ _) fun b hb o e => ?_) hS3 fun s2 mv2 hS4 => ?_⟩
    · rw [sb.2 b (fun z : b = so => hso (by rw [← z]; exact hb))]
      exact e
    · refine hR s2 (Moved.trans U.gtrans ((mv.mono sub2).then_heap (Nat.le_succ _) fun b o hb e => ?_) mv2) hS4
      rw [sb.2 b (fun z : b = so => hb (by rw [z]; exact List.mem_cons_self))]
      exact e
end
section
variable {pr : Program} {w : World} {B : Around} {EE : Value → Shared → Prop} {s : Shared}
abbrev setOb (led : Bool) : Obj := { cls := .type "set", dict := none, data := .set #[] 0 (.fresh 0 0 led) }
theorem call_set_texts {tu : Addr} {its : Array Value} {ys : List Str} {QQ : Value → Shared → Prop} (hd : B.handled = none) (ht : s.heap.IsTuple tu its) (hy : StrsAre its.toList ys) (few : ys.length < 64)
    (fin : ∀ (h' : Heap) (tk : Nat), h'.SetOf (strKind pr w) s.heap.objs.size (fun q => decide (q ∈ ys)) (ddS ys).length → (∀ b o, b < s.heap.objs.size → s.heap.get? b = some o → h'.get? b = some o) → QQ (.ref s.heap.objs.size) { s with heap := h', toks := tk }) :
    wpAny (model pr w) B (call (.type "set") [.ref tu]) QQ EE s := by
  obtain ⟨cc, tl, mro⟩ := F.called_set.mro
  have md := F.called_set.made
  have sb := F.called_set.sub
  refine wpAny_call (codeAny_of_tree ?_)
  show wpAny _ _ (callAny (.type "set") _) _ _ _
  refine wpAny_pure ⟨Code.quiet_builtin _ (by decide +kernel), codeAny_builtin F.entry_type_call ?_⟩
  rw [Around.under_plain (weight_type_call_type "set" [.ref tu] []) rfl]
  have q1 := F.called_set.notType
  have q2 := F.called_set.canCreate
  have q3 := F.typeCall_set_1 (.ref tu)
  repeat (any_goals (first | assumption | wp_step))
  refine codeAny_mono (code_set_new_1 (.ref tu) (E := EE) (Q₁ := fun ob s1 => ∃ led : Bool, ob = .ref s.heap.objs.size ∧ s1 = { s with heap := s.heap.push (setOb led) }) fun led => ⟨led, rfl, rfl⟩) fun r s1 hr => ?_
  cases r with
  | error e => exact hr
  | ok fl =>
    cases fl with
    | ret ob =>
      obtain ⟨led, rfl, rfl⟩ := hr
      have gS : (s.heap.push (setOb led)).get? s.heap.objs.size = some (setOb led) := Heap.get?_push_size _ rfl
      have tS : Shared.TypeIs { s with heap := s.heap.push (setOb led) } (.ref s.heap.objs.size) "set" := ⟨_, gS, rfl⟩
      have i1 := F.called_set.init.lookup
      have i2 := F.called_set.init.bind (.ref s.heap.objs.size)
      repeat (any_goals (first | assumption | wp_step))
      refine codeAny_mono (codeAny_call_builtin (R := wants (fun r s2 => r = .none ∧ ∃ h' tk, s2 = { s with heap := h', toks := tk } ∧ h'.SetOf (strKind pr w) s.heap.objs.size (fun q => decide (q ∈ ys)) (ddS ys).length ∧ (∀ b o, b < s.heap.objs.size → s.heap.get? b = some o → h'.get? b = some o)) EE) F.called_set.init.plain F.entry_set_init (check_set_init_1 tS ?_)) fun r2 s2 hr2 => ?_
      · obtain ⟨ot, got, ct, nt, dt⟩ := ht
        obtain ⟨otc, otd, otx, ots⟩ := ot
        simp only at ct dt
        subst ct
        subst dt
        have got2 : (s.heap.push (setOb led)).get? tu = some { cls := .type "tuple", dict := otd, data := .seq its nt, slots := ots } := Heap.get?_push_of_some _ got
        have u1 := F.sub_tuple_set
        have u2 := F.sub_tuple_frozenset
        have u3 : (Value.type "tuple" == Value.type "dict") = false := by decide
        have tup1 : (s.heap.push (setOb led)).IsTuple tu its := ⟨_, got2, rfl, nt, rfl⟩
        unfold Builtin.«set.__init__» noKeywords Builtin.Frozenset.updateFrom
        generalize hPI : pyIter = PI
        wp_walk
        subst hPI
        refine wpAny_pyIter_tuple tup1 ?_
        refine wpAny_bind (wpAny_runValue ?_)
        have lt1 : tu < s.heap.objs.size := Heap.lt_size got
        have hd3 : B.in1.in1.in1.handled = none := by simp [hd]
        have ne1 : tu ≠ (s.heap.push (setOb led)).objs.size := by
          rw [Heap.size_push]
          exact Nat.ne_of_lt (Nat.lt_succ_of_lt lt1)
        have so1 : s.heap.objs.size ∉ [(s.heap.push (setOb led)).objs.size, tu] := by
          rw [Heap.size_push]
          simp only [List.mem_cons, List.mem_singleton, List.not_mem_nil, or_false, not_or]
          exact ⟨Nat.ne_of_lt (Nat.lt_succ_self _), Nat.ne_of_gt lt1⟩
        have len1 : ys.length = its.size := by rw [← StrsAre.len_eq hy, Array.length_toList]
        refine loop_texts ((Walks.tuple hd3 _ tu ne1 its).toS) s.heap.objs.size so1 ys len1 (by omega) (fun i v e => SS.strs_at hy i v (by rw [Array.getElem?_toList]; exact e)) (its.size - 0) 0 _ (by omega) (Nat.zero_le _)
          ⟨⟨_, Heap.get?_push_size _ rfl, rfl, rfl⟩, tup1.push _⟩ ?start ?done
        case start =>
          have g2 : ((s.heap.push (setOb led)).push { cls := .type "tuple_iterator", data := .fields #[.ref tu, .int 0 0] }).get? s.heap.objs.size = some (setOb led) := Heap.get?_push_of_some _ gS
          exact SetOf_congr ((setObjOf_fresh (knd := strKind pr w) led).setOf g2 (by unfold scanBound; omega)) (fun q => by simp) rfl
        case done =>
          intro s' mv hS
          obtain ⟨h', g', d', tk', os'⟩ := s'
          have eg : g' = s.gens := mv.gens
          have ed : d' = s.drawn := mv.drawn
          have eo : os' = s.os := mv.os
          subst eg
          subst ed
          subst eo
          refine wpAny_pure ?_
          show wpAny _ _ (ret Value.none) _ _ _
          refine wpAny_pure ⟨rfl, h', tk', rfl, hS, fun b o hb e => ?_⟩
          have n1 : b ≠ s.heap.objs.size := Nat.ne_of_lt hb
          have n2 : b ≠ (s.heap.push (setOb led)).objs.size := by
            rw [Heap.size_push]
            exact Nat.ne_of_lt (Nat.lt_succ_of_lt hb)
          exact mv.heap b o (by simp only [List.mem_cons, List.mem_singleton, List.not_mem_nil, or_false, not_or]; exact ⟨n1, n2⟩) (Heap.get?_push_of_some _ (Heap.get?_push_of_some _ e))
      · cases r2 with
        | error e => exact hr2
        | ok fl2 =>
          cases fl2 with
          | ret r =>
            obtain ⟨rfl, h', tk, rfl, hS, hk⟩ := hr2
            repeat (any_goals (first | assumption | wp_step))
            exact fin _ _ hS hk
          | _ => exact hr2.elim
    | _ => exact hr.elim
end
section
variable {X : Cx}
def tLenSetT (K : PySem.W.Frag) (ta : TE) : TE := fun σ H Q => ta σ H fun x H1 => ∃ (l : Addr) (ys : List Str), x = V.ref l ∧ SqT K H1 l (ys.map V.str) ∧ ys.length < 64 ∧ Q (.int ((ddS ys).length : Nat)) H1
theorem pe_lenSetT {a : Expr} {ta : TE} {p p2 q pos : Pos} (hc : X.calm = true) (hg : Gl X "len") (hm : X.mg "len" = none) (hg2 : Gl X "set") (hm2 : X.mg "set" = none) (ha : PE X a ta)
    (na : starEach [a] X.env = (false, eval a X.env) :: starEach [] X.env := by rfl) : PE X (.Call (.Name "len" p) [.Call (.Name "set" p2) [a] [] q] [] pos) (tLenSetT X.K ta) := by
  refine ⟨fun pins s σ H Q I h => ?_⟩
  refine Call_ (ld_blt I hg hm boot_len ?_)
  refine callWith_builtin1 (args_cons ?_ rfl) rfl rfl
  refine Call_ (ld_blt I hg2 hm2 boot_set ?_)
  refine callWith_type1 (args_cons (thn (ha.run pins s σ H _ I h) fun v s1 ⟨x, H1, I1, r1, q1⟩ => args_nil ?_) na) na rfl
  obtain ⟨l, ys, rfl, hq, few, q1⟩ := q1
  cases r1
  obtain ⟨its, r, pl, hz⟩ := I1.tuple hq
  have small := ddS_len ys
  refine call_set_texts (I1.ok.hd hc) pl (ys := ys) (by simpa using strsAre_of r) few fun h' tk hS hk => ?_
  refine args_nil ?_
  obtain ⟨o, es, ep, t, ho, hex, hd, _, _, _, hf, hn⟩ := hS
  have I2 : Inv X pins σ H1 { s1 with heap := h', toks := tk } := I1.kept fun b o e => hk b o (Heap.lt_size e) e
  exact call_len_set ho hex hd hf (by rw [hn] <;> omega) ⟨.int ((ddS ys).length : Nat), H1, I2.tok _, ⟨_, by rw [hn]⟩, q1⟩
end
end L2

set_option Elab.async false
set_option linter.all false
set_option maxRecDepth 100000
set_option maxHeartbeats 4000000
/-! SetStr: len(set(z)), z a text. -/
namespace L2
open PySem PySem.Spec PyProof.Rows
def signsS (x : Str) : List Str := x.cps.toList.map fun c => ⟨#[c]⟩
section
variable {pr : Program} {w : World} {B : Around} {RR : Result → Shared → Prop} {it : Addr} {fq ww : List Addr} {GG : Array GenState → Array GenState → Prop} {m : Nat} {PP : Nat → Value → Prop} {TT : Nat → Shared → Prop}
theorem loop_signs (U : WalksS pr w B.in1 it fq ww GG m PP TT) (so : Addr) (hso : so ∉ fq) (ys : List Str) (hys : ys.length = m) (few : m < 4000) (hv : ∀ i v, PP i v → ∃ t, v = .str (ys.getD i Str.empty) t) :
    ∀ (left i : Nat) (s : Shared), m - i = left → i ≤ m → TT i s → s.heap.SetOf (strKind pr w) so (fun q => decide (q ∈ ys.take i)) (ddS (ys.take i)).length →
      (∀ s', Moved (so :: ww) GG s s' → s'.heap.SetOf (strKind pr w) so (fun q => decide (q ∈ ys)) (ddS ys).length → RR (.ok (.ret .none)) s') →
      codeAny (model pr w) B (.builtin "set.update.loop" ⟨[.ref so, .ref it], []⟩) RR s := by
  have now : so ∉ ww := fun h => hso (U.sub _ h)
  have sub2 : ∀ b ∈ ww, b ∈ so :: ww := fun b hb => List.mem_cons_of_mem _ hb
  intro left
  induction left with
  | zero =>
    intro i s hl hi ht hS hR
    obtain rfl : i = m := by omega
    rw [← hys, List.take_length] at hS
    refine codeAny_builtin F.entry_set_update_loop ?_
    rw [Around.under_plainId F.plain_set_update_loop _]
    refine wpAny_bind (U.done s _ _ ht fun s' mv => ?_)
    obtain ⟨o, es, ep, tb, ho, rest⟩ := hS
    exact wpAny_pure (hR s' (mv.mono sub2) ⟨o, es, ep, tb, mv.heap so _ now ho, rest⟩)
  | succ left ih =>
    intro i s hl hi ht hS hR
    have him : i < m := by omega
    refine codeAny_builtin F.entry_set_update_loop ?_
    rw [Around.under_plainId F.plain_set_update_loop _]
    refine wpAny_bind (U.item i s _ _ him ht fun v s' hP ht' mv => ?_)
    obtain ⟨t, rfl⟩ := hv i v hP
    have hS' : s'.heap.SetOf (strKind pr w) so (fun q => decide (q ∈ ys.take i)) (ddS (ys.take i)).length := by
      obtain ⟨o, es, ep, tb, ho, rest⟩ := hS
      exact ⟨o, es, ep, tb, mv.heap so _ now ho, rest⟩
    have hlen := ddS_len (ys.take i)
    rw [List.length_take] at hlen
    refine wpAny_bind (wpAny_holding ?_)
    unfold setAdd
    refine wpAny_holding ?_
    refine wpAny_bind ((strKind pr w).pyHash (k := ys.getD i Str.empty) (strKind_is _ _ _ _) ?_)
    refine wpAny_setAddHashed_of (knd := strKind pr w) (s := { s' with toks := s'.toks + 1 }) (strKind_is _ _ _ _) rfl hS' (by unfold scanBound; omega) fun h' sb hS2 => ?_
    have ey : ys.take (i + 1) = ys.take i ++ [ys.getD i Str.empty] := by
      rw [List.take_succ, List.getD_eq_getElem?_getD, List.getElem?_eq_getElem (by omega)]
      rfl
    have hS3 : h'.SetOf (strKind pr w) so (fun q => decide (q ∈ ys.take (i + 1))) (ddS (ys.take (i + 1))).length := by
      rw [ey]
      refine SetOf_congr hS2 (fun q => ?_) ?_
      · by_cases h1 : q ∈ ys.take i
        · simp [h1]
        · simp [h1]
      · rw [ddS_snoc]
        by_cases h1 : ys.getD i Str.empty ∈ ys.take i
        · rw [if_pos ((ddS_mem _ _).mpr h1), if_pos (by simpa using h1)]
        · rw [if_neg (fun z => h1 ((ddS_mem _ _).mp z)), if_neg (by simpa using h1), List.length_append]
          rfl
    refine wpAny_pure ⟨plainId_quiet F.plain_set_update_loop _, ih (i + 1) _ (by omega) him (U.frame _ s' _ _ ht' (Nat.le_succ _) fun b hb o e => ?_) hS3 fun s2 mv2 hS4 => ?_⟩
    · rw [sb.2 b (fun z : b = so => hso (by rw [← z]; exact hb))]
      exact e
    · refine hR s2 (Moved.trans U.gtrans ((mv.mono sub2).then_heap (Nat.le_succ _) fun b o hb e => ?_) mv2) hS4
      rw [sb.2 b (fun z : b = so => hb (by rw [z]; exact List.mem_cons_self))]
      exact e
end
section
variable {pr : Program} {w : World} {B : Around} {EE : Value → Shared → Prop} {s : Shared}
theorem call_set_sign {x : Str} {tx : Tok} {QQ : Value → Shared → Prop} (hd : B.handled = none) (few : x.cps.size < 4000)
    (fin : ∀ (h' : Heap) (tk : Nat), h'.SetOf (strKind pr w) s.heap.objs.size (fun q => decide (q ∈ signsS x)) (ddS (signsS x)).length → (∀ b o, b < s.heap.objs.size → s.heap.get? b = some o → h'.get? b = some o) → QQ (.ref s.heap.objs.size) { s with heap := h', toks := tk }) :
    wpAny (model pr w) B (call (.type "set") [.str x tx]) QQ EE s := by
  obtain ⟨cc, tl, mro⟩ := F.called_set.mro
  have md := F.called_set.made
  have sb := F.called_set.sub
  refine wpAny_call (codeAny_of_tree ?_)
  show wpAny _ _ (callAny (.type "set") _) _ _ _
  refine wpAny_pure ⟨Code.quiet_builtin _ (by decide +kernel), codeAny_builtin F.entry_type_call ?_⟩
  rw [Around.under_plain (weight_type_call_type "set" [.str x tx] []) rfl]
  have q1 := F.called_set.notType
  have q2 := F.called_set.canCreate
  have q3 := F.typeCall_set_1 (.str x tx)
  repeat (any_goals (first | assumption | wp_step))
  refine codeAny_mono (code_set_new_1 (.str x tx) (E := EE) (Q₁ := fun ob s1 => ∃ led : Bool, ob = .ref s.heap.objs.size ∧ s1 = { s with heap := s.heap.push (setOb led) }) fun led => ⟨led, rfl, rfl⟩) fun r s1 hr => ?_
  cases r with
  | error e => exact hr
  | ok fl =>
    cases fl with
    | ret ob =>
      obtain ⟨led, rfl, rfl⟩ := hr
      have gS : (s.heap.push (setOb led)).get? s.heap.objs.size = some (setOb led) := Heap.get?_push_size _ rfl
      have tS : Shared.TypeIs { s with heap := s.heap.push (setOb led) } (.ref s.heap.objs.size) "set" := ⟨_, gS, rfl⟩
      have i1 := F.called_set.init.lookup
      have i2 := F.called_set.init.bind (.ref s.heap.objs.size)
      repeat (any_goals (first | assumption | wp_step))
      refine codeAny_mono (codeAny_call_builtin (R := wants (fun r s2 => r = .none ∧ ∃ h' tk, s2 = { s with heap := h', toks := tk } ∧ h'.SetOf (strKind pr w) s.heap.objs.size (fun q => decide (q ∈ signsS x)) (ddS (signsS x)).length ∧ (∀ b o, b < s.heap.objs.size → s.heap.get? b = some o → h'.get? b = some o)) EE) F.called_set.init.plain F.entry_set_init (check_set_init_1 tS ?_)) fun r2 s2 hr2 => ?_
      · have u1 : (Value.type "str" == Value.type "dict") = false := by decide
        have u2 := F.sub_str_set
        have u3 := F.sub_str_frozenset
        unfold Builtin.«set.__init__» noKeywords Builtin.Frozenset.updateFrom
        generalize hPI : pyIter = PI
        wp_walk
        subst hPI
        refine wpAny_pyIter_str fun o St W st0 => ?_
        refine wpAny_bind (wpAny_runValue ?_)
        have hd3 : B.in1.in1.in1.handled = none := by simp [hd]
        have so1 : s.heap.objs.size ∉ [(s.heap.push (setOb led)).objs.size] := by
          rw [Heap.size_push]
          simp only [List.mem_cons, List.mem_singleton, List.not_mem_nil, or_false, not_or]
          exact Nat.ne_of_lt (Nat.lt_succ_self _)
        have len1 : (signsS x).length = x.cps.size := by rw [signsS, List.length_map, Array.length_toList]
        refine loop_signs ((W _ hd3).toS) s.heap.objs.size so1 (signsS x) len1 (by omega) (fun i v ⟨c, u, e1, e2⟩ => ⟨u, by rw [e2, signsS, List.getD_eq_getElem?_getD, List.getElem?_map, Array.getElem?_toList, e1]; rfl⟩) (x.cps.size - 0) 0 _ (by omega) (Nat.zero_le _)
          st0 ?start ?done
        case start =>
          have g2 : ((s.heap.push (setOb led)).push o).get? s.heap.objs.size = some (setOb led) := Heap.get?_push_of_some _ gS
          exact SetOf_congr ((setObjOf_fresh (knd := strKind pr w) led).setOf g2 (by unfold scanBound; omega)) (fun q => by simp) rfl
        case done =>
          intro s' mv hS
          obtain ⟨h', g', d', tk', os'⟩ := s'
          have eg : g' = s.gens := mv.gens
          have ed : d' = s.drawn := mv.drawn
          have eo : os' = s.os := mv.os
          subst eg
          subst ed
          subst eo
          refine wpAny_pure ?_
          show wpAny _ _ (ret Value.none) _ _ _
          refine wpAny_pure ⟨rfl, h', tk', rfl, hS, fun b o hb e => ?_⟩
          have n1 : b ≠ s.heap.objs.size := Nat.ne_of_lt hb
          have n2 : b ≠ (s.heap.push (setOb led)).objs.size := by
            rw [Heap.size_push]
            exact Nat.ne_of_lt (Nat.lt_succ_of_lt hb)
          exact mv.heap b o (by simp only [List.mem_cons, List.mem_singleton, List.not_mem_nil, or_false, not_or]; exact ⟨n1, n2⟩) (Heap.get?_push_of_some _ (Heap.get?_push_of_some _ e))
      · cases r2 with
        | error e => exact hr2
        | ok fl2 =>
          cases fl2 with
          | ret r =>
            obtain ⟨rfl, h', tk, rfl, hS, hk⟩ := hr2
            repeat (any_goals (first | assumption | wp_step))
            exact fin _ _ hS hk
          | _ => exact hr2.elim
    | _ => exact hr.elim
end
section
variable {X : Cx}
def tLenSetS (ta : TE) : TE := fun σ H Q => ta σ H fun x H1 => ∃ z : Str, x = V.str z ∧ z.cps.size < 4000 ∧ Q (.int ((ddS (signsS z)).length : Nat)) H1
theorem pe_lenSetS {a : Expr} {ta : TE} {p p2 q pos : Pos} (hc : X.calm = true) (hg : Gl X "len") (hm : X.mg "len" = none) (hg2 : Gl X "set") (hm2 : X.mg "set" = none) (ha : PE X a ta)
    (na : starEach [a] X.env = (false, eval a X.env) :: starEach [] X.env := by rfl) : PE X (.Call (.Name "len" p) [.Call (.Name "set" p2) [a] [] q] [] pos) (tLenSetS ta) := by
  refine ⟨fun pins s σ H Q I h => ?_⟩
  refine Call_ (ld_blt I hg hm boot_len ?_)
  refine callWith_builtin1 (args_cons ?_ rfl) rfl rfl
  refine Call_ (ld_blt I hg2 hm2 boot_set ?_)
  refine callWith_type1 (args_cons (thn (ha.run pins s σ H _ I h) fun v s1 ⟨x, H1, I1, r1, q1⟩ => args_nil ?_) na) na rfl
  obtain ⟨z, rfl, few, q1⟩ := q1
  obtain ⟨tk0, rfl⟩ := r1
  have small := ddS_len (signsS z)
  have sl : (signsS z).length = z.cps.size := by rw [signsS, List.length_map, Array.length_toList]
  refine call_set_sign (I1.ok.hd hc) few fun h' tk hS hk => ?_
  refine args_nil ?_
  obtain ⟨o, es, ep, t, ho, hex, hd, _, _, _, hf, hn⟩ := hS
  have I2 : Inv X pins σ H1 { s1 with heap := h', toks := tk } := I1.kept fun b o e => hk b o (Heap.lt_size e) e
  exact call_len_set ho hex hd hf (by rw [hn]; omega) ⟨.int ((ddS (signsS z)).length : Nat), H1, I2.tok _, ⟨_, by rw [hn]⟩, q1⟩
end
end L2

set_option Elab.async false
set_option linter.all false
set_option maxRecDepth 100000
set_option maxHeartbeats 4000000
/-! StrKit: z * k and z[::-1] of texts. -/
namespace L2
open PySem PySem.Spec PyProof.Rows
/-- a text so many times -/
def repS (z : Str) (n : Nat) : Str := ⟨(List.replicate n z.cps.toList).flatten.toArray⟩
theorem foldl_app {α : Type} (xs : List (Array α)) (acc : Array α) : (xs.foldl (· ++ ·) acc).toList = acc.toList ++ (xs.map Array.toList).flatten := by
  induction xs generalizing acc with
  | nil => simp
  | cons x xs ih => rw [List.foldl_cons, ih, Array.toList_append, List.map_cons, List.flatten_cons, List.append_assoc]
theorem repS_list (z : Str) (n : Nat) : (repS z n).cps.toList = (List.replicate n z.cps.toList).flatten := rfl
theorem repS_len (z : Str) (n : Nat) : (repS z n).cps.toList.length = n * z.cps.toList.length := by
  rw [repS_list, List.length_flatten, List.map_replicate, List.sum_replicate_nat]
theorem mul_repS (z : Str) (k : Int) : Txt.mul z k = repS z k.toNat := by
  unfold Txt.mul repS
  by_cases h1 : k < 1
  · rw [if_pos h1, show k.toNat = 0 by omega]
    rfl
  · rw [if_neg h1]
    by_cases h2 : (k == 1 || z.length == 0) = true
    · rw [if_pos h2]
      rcases Bool.or_eq_true_iff.mp h2 with h | h
      · have : k = 1 := by simpa using h
        subst this
        obtain ⟨cs⟩ := z
        simp
      · have : z.length = 0 := by simpa using h
        have e : z.cps = #[] := Array.eq_empty_of_size_eq_zero this
        obtain ⟨cs⟩ := z
        simp only at e
        subst e
        simp
    · rw [if_neg h2]
      congr 1
      apply Array.ext'
      rw [foldl_app, List.map_replicate]
      simp
section
variable {X : Cx}
theorem op_mulS : OpR X (binaryOp .Mult) (fun x y H Q => ∃ z k, x = .str z ∧ y = .int k ∧ -(2 ^ 62) ≤ k ∧ k ≤ 2 ^ 24 ∧ z.cps.toList.length * k.toNat ≤ 2 ^ 24 ∧ Q (.str (repS z k.toNat)) H) := by
  intro pins s σ H x y v u Q I rx ry h
  obtain ⟨z, k, rfl, rfl, h1, h2, h3, q⟩ := h
  obtain ⟨t, rfl⟩ := rx
  obtain ⟨t', rfl⟩ := ry
  have hz : z.length = z.cps.toList.length := Array.length_toList.symm
  refine SB.mul ⟨?_, fun h4 h5 => ?_, fun h4 h5 => ?_⟩ fun t' tk => ⟨.str (repS z k.toNat), H, I.tok _, ⟨t', by rw [mul_repS]⟩, q⟩
  · have : ¬ k < -(2 ^ 63 : Int) := by omega
    have h : ¬ k ≥ (2 ^ 63 : Int) := by omega
    rw [decide_eq_false this, decide_eq_false h]
    rfl
  · have hk : 0 < k := by omega
    have : ((z.length : Nat) : Int) * k ≤ 2 ^ 24 := by
      rw [hz]
      have := Int.ofNat_le.mpr h3
      rw [Int.natCast_mul, Int.toNat_of_nonneg (by omega)] at this
      exact this
    have := Int.le_ediv_of_mul_le hk (Int.le_trans this (by decide : (2 : Int) ^ 24 ≤ 2 ^ 63 - 1))
    omega
  · unfold Builtin.Str.tooLong
    have : z.length * k.toNat ≤ 2 ^ 24 := by rw [hz]; exact h3
    simp only [sizeLine_eq]
    have h : ¬ z.length * k.toNat > 2 ^ 24 := by omega
    simp [h]
/-- z[::-1] -/
def revS (z : Str) : Str := ⟨z.cps.toList.reverse.toArray⟩
theorem revS_list (z : Str) : (revS z).cps.toList = z.cps.toList.reverse := rfl
def tRevS (te : TE) : TE := fun σ H Q => te σ H fun x H1 => ∃ z, x = .str z ∧ z.length ≤ sizeLine ∧ Q (.str (revS z)) H1
theorem pe_revS {e : Expr} {te : TE} {k : Nat} {p1 p2 p3 pos : Pos} (he : PE X e te) : PE X (.Subscript e (.Slice none none (some (.UnaryOp .USub (.Constant (.int 1) k p1) p2)) p3) pos) (tRevS te) := by
  refine ⟨fun pins s σ H Q I h => ?_⟩
  refine Subscript_ (thn (he.run pins s σ H _ I h) fun v s1 ⟨x, H1, I1, r1, q1⟩ => ?_)
  obtain ⟨z, ex, hz, q⟩ := q1
  subst ex
  obtain ⟨tz, rfl⟩ := r1
  have hst : PO X (some (.UnaryOp .USub (.Constant (.int 1) k p1) p2)) (tPart (tUn (rU fun i => .int (-i)) (tC (.int 1)))) := po_some (pe_un un_neg pe_int)
  refine wpAny_Slice (thn (po_none.run pins s1 σ H1 (fun o H2 => o = none ∧ H2 = H1) I1 ⟨rfl, rfl⟩) fun vl s2 ⟨l, H2, I2, pl, el, e2⟩ => ?_)
  subst el e2
  refine thn (po_none.run pins s2 σ H2 (fun o H3 => o = none ∧ H3 = H2) I2 ⟨rfl, rfl⟩) fun vu s3 ⟨u, H3, I3, pu, eu, e3⟩ => ?_
  subst eu e3
  refine thn (hst.run pins s3 σ H3 (fun o H4 => o = some (-1) ∧ H4 = H3) I3 ⟨1, rfl, -1, rfl, rfl, rfl⟩) fun vs s4 ⟨o, H4, I4, ps, eo, e4⟩ => ?_
  subst eo e4
  have I5 : Inv X pins σ H4 { s4 with heap := s4.heap.push { cls := .type "slice", data := .fields #[vl, vu, vs] } } := I4.kept (t' := s4.toks) fun b ob q => Heap.get?_push_of_some _ q
  show wpAny (model X.prog X.w) X.A (subscriptTail e (.Slice none none (some (.UnaryOp .USub (.Constant (.int 1) k p1) p2)) p3) (.str z tz) (.ref s4.heap.objs.size)) (EP X pins σ Q) X.xe { s4 with heap := s4.heap.push { cls := .type "slice", data := .fields #[vl, vu, vs] } }
  obtain ⟨l, rfl, e1⟩ := IsPart.raw pl
  obtain ⟨u, rfl, e2⟩ := IsPart.raw pu
  obtain ⟨st, rfl, e3⟩ := IsPart.raw ps
  have el : l = none := by cases l <;> simp_all
  have eu : u = none := by cases u <;> simp_all
  subst el eu
  refine tail_any (ops := [.str z tz, .ref s4.heap.objs.size]) (typeIs_str _ _ _) (F.slot_str_getitem.lookup) ?_ (by with_unfolding_all rfl)
  refine wpAny_getItem_str_slice (l := none) (u := none) (st := st) ⟨_, Heap.get?_push_size _ rfl, rfl, rfl⟩ (by rw [e3]; rfl) ?_
  have hp : ((Builtin.Str.strSliceIndices none none (-1) z.length).filterMap (z.cps[·]?)) = z.cps.toList.reverse := by
    unfold Builtin.Str.strSliceIndices
    show ((PySem.sliceRange ((z.length : Int) - 1) (-1) (-1)).filterMap (z.cps[·]?)) = _
    rw [PySem.W.krv_sliceRange, PySem.W.krv_range, List.filterMap_reverse]
    exact congrArg List.reverse (PySem.W.krv_all z.cps)
  have hl : (revS z).length ≤ sizeLine := by
    have : (revS z).length = z.length := by
      show (z.cps.toList.reverse.toArray).size = z.cps.size
      rw [List.size_toArray, List.length_reverse, Array.length_toList]
    omega
  unfold sliceMade slicePicked
  rw [e3]
  show Made.post (if ((-1 : Int) == 1 && _) = true then _ else Made.str ⟨((Builtin.Str.strSliceIndices none none (-1) z.length).filterMap (z.cps[·]?)).toArray⟩) _ _
  rw [hp, if_neg (by simp)]
  exact ⟨hl, .str (revS z), H4, I5.tok _, ⟨_, rfl⟩, q⟩
end
end L2

set_option Elab.async false
set_option linter.all false
set_option maxRecDepth 100000
set_option maxHeartbeats 4000000
/-! LcKit: comprehensions whose items are known one by one. -/
namespace L2
open PySem
/-- all but the lists stay -/
def KeepL (H H' : Hp) : Prop := ∀ b o, H b = some o → (∀ l, o ≠ .lst l) → H' b = some o
theorem KeepL.of {H H' : Hp} (s : ∀ b o, H b = some o → H' b = some o) : KeepL H H' := fun b o e _ => s b o e
theorem KeepL.trans {H H1 H2 : Hp} (s : KeepL H H1) (t : KeepL H1 H2) : KeepL H H2 := fun b o e n => t b o (s b o e n) n
inductive All2 {α β : Type} (R : α → β → Prop) : List α → List β → Prop
  | nil : All2 R [] []
  | cons {x : α} {z : β} {xs : List α} {zs : List β} (h : R x z) (t : All2 R xs zs) : All2 R (x :: xs) (z :: zs)
section
variable {α β : Type} {R : α → β → Prop}
theorem All2.length {xs : List α} {zs : List β} (h : All2 R xs zs) : xs.length = zs.length := by
  induction h with
  | nil => rfl
  | cons _ _ ih => rw [List.length_cons, List.length_cons, ih]
theorem All2.get {xs : List α} {zs : List β} (h : All2 R xs zs) {i : Nat} {x : α} (e : xs[i]? = some x) : ∃ z, zs[i]? = some z ∧ R x z := by
  induction h generalizing i with
  | nil => cases e
  | cons h t ih =>
    cases i with
    | zero => cases e; exact ⟨_, rfl, h⟩
    | succ i => exact ih e
theorem All2.getR {xs : List α} {zs : List β} (h : All2 R xs zs) {i : Nat} {z : β} (e : zs[i]? = some z) : ∃ x, xs[i]? = some x ∧ R x z := by
  induction h generalizing i with
  | nil => cases e
  | cons h t ih =>
    cases i with
    | zero => cases e; exact ⟨_, rfl, h⟩
    | succ i => exact ih e
theorem All2.append {xs ys : List α} {zs ws : List β} (h : All2 R xs zs) (g : All2 R ys ws) : All2 R (xs ++ ys) (zs ++ ws) := by
  induction h with
  | nil => exact g
  | cons h t ih => exact .cons h ih
theorem All2.mono {S : α → β → Prop} {xs : List α} {zs : List β} (h : All2 R xs zs) (m : ∀ x z, z ∈ zs → R x z → S x z) : All2 S xs zs := by
  induction h with
  | nil => exact .nil
  | cons h t ih => exact .cons (m _ _ List.mem_cons_self h) (ih fun x z hz r => m x z (List.mem_cons_of_mem _ hz) r)
theorem All2.drop {xs : List α} {zs : List β} (h : All2 R xs zs) : ∀ k : Nat, All2 R (xs.drop k) (zs.drop k)
  | 0 => h
  | k + 1 => by
    cases h with
    | nil => exact .nil
    | cons h t => exact t.drop k
theorem All2.take {xs : List α} {zs : List β} (h : All2 R xs zs) : ∀ k : Nat, All2 R (xs.take k) (zs.take k)
  | 0 => .nil
  | k + 1 => by
    cases h with
    | nil => exact .nil
    | cons h t => exact .cons h (t.take k)
theorem All2.map {γ : Type} {f : γ → α} {g : γ → β} : ∀ {cs : List γ}, (∀ c ∈ cs, R (f c) (g c)) → All2 R (cs.map f) (cs.map g)
  | [], _ => .nil
  | c :: cs, h => .cons (h c List.mem_cons_self) (All2.map fun d hd => h d (List.mem_cons_of_mem _ hd))
theorem All2.mem {xs : List α} {zs : List β} (h : All2 R xs zs) {x : α} (e : x ∈ xs) : ∃ z, z ∈ zs ∧ R x z := by
  obtain ⟨i, hi⟩ := List.mem_iff_getElem?.mp e
  obtain ⟨z, hz, r⟩ := h.get hi
  exact ⟨z, List.mem_of_getElem? hz, r⟩
/-- values that are told by what they are -/
theorem All2.eq_map {f : β → α} {xs : List α} {zs : List β} (h : All2 (fun x z => x = f z) xs zs) : xs = zs.map f := by
  induction h with
  | nil => rfl
  | cons h t ih => rw [List.map_cons, h, ih]
theorem All2.of_map {f : β → α} : ∀ zs : List β, All2 (fun x z => x = f z) (zs.map f) zs
  | [] => .nil
  | z :: zs => .cons rfl (All2.of_map zs)
end
theorem filter_take_succ {β γ : Type} {zs : List β} {i : Nat} {z : β} (e : zs[i]? = some z) (t : β → Bool) (f : β → γ) : ((zs.take (i + 1)).filter t).map f = ((zs.take i).filter t).map f ++ (if t z = true then [f z] else []) := by
  rw [List.take_succ, e, List.filter_append, List.map_append]
  congr 1
  by_cases h : t z = true
  · rw [if_pos h]
    simp [h]
  · rw [if_neg h]
    simp [h]
section
variable {K : PySem.W.Frag} {g : TG} {tt : TT} {te : TE} {vs : List Nat} {σ : St} {H1 : Hp} {D : Addr} {Qd : Hp → Prop} {α β : Type} {zs : List α} {R : Hp → V → α → Prop} {R' : Hp → V → β → Prop}
theorem sqT_same {H H' : Hp} {a : Addr} {xs : List V} (e : ∀ b o, H b = some o → H' b = some o) (h : SqT K H a xs) : SqT K H' a xs :=
  h.elim (fun h => .inl (h.elim (fun h => .inl (e _ _ h)) fun ⟨o, h⟩ => .inr ⟨o, e _ _ h⟩)) fun h => .inr h
theorem sqL_same {H H' : Hp} {a : Addr} {xs : List V} (e : ∀ b o, H b = some o → H' b = some o) (h : SqL K H a xs) : SqL K H' a xs :=
  h.elim (fun h => .inl (h.elim (fun h => .inl (e _ _ h)) fun ⟨o, h⟩ => .inr ⟨o, e _ _ h⟩)) fun h => .inr h
/-- one turn's wish -/
def LcP (H1 : Hp) (D : Addr) (R' : Hp → V → β → Prop) (zs : List α) (t : α → Bool) (f : α → β) (i : Nat) (H : Hp) : Prop := (∀ b o, H1 b = some o → H b = some o) ∧ ∃ ys, H D = some (.lst ys) ∧ All2 (R' H) ys (((zs.take i).filter t).map f)
theorem lcP_put {t : α → Bool} {f : α → β} {i : Nat} {z : α} {H H4 : Hp} {y : V} (hD : H1 D = none) (mR' : ∀ H H' x z, KeepL H H' → R' H x z → R' H' x z) (hz : zs.length < sizeLine) (e : zs[i]? = some z) (p : LcP H1 D R' zs t f i H) (ht : t z = true)
    (s : ∀ b o, H b = some o → H4 b = some o) (r : R' H4 y (f z)) : ∃ acc, H4 D = some (.lst acc) ∧ acc.length < sizeLine ∧ LcP H1 D R' zs t f (i + 1) (upd H4 D (.lst (acc ++ [y]))) := by
  obtain ⟨s1, ys, hd, a⟩ := p
  have kl : KeepL H4 (upd H4 D (.lst (ys ++ [y]))) := fun b o e n => by
    rw [upd_ne (fun q => by subst q; rw [s _ _ hd] at e; cases e; exact n _ rfl)]
    exact e
  have hlen := a.length
  rw [List.length_map] at hlen
  have h1 : ((zs.take i).filter t).length ≤ zs.length := Nat.le_trans (List.length_filter_le _ _) (by rw [List.length_take]; omega)
  refine ⟨ys, s _ _ hd, by omega, fun b o e => ?_, _, upd_same, ?_⟩
  · rw [upd_ne (ne_of_none e hD)]
    exact s _ _ (s1 _ _ e)
  · rw [filter_take_succ e, if_pos ht]
    exact (a.mono fun x z _ r => mR' _ _ _ _ kl (mR' _ _ _ _ (.of s) r)).append (.cons (mR' _ _ _ _ kl r) .nil)
theorem lcP_skip {t : α → Bool} {f : α → β} {i : Nat} {z : α} {H H3 : Hp} (mR' : ∀ H H' x z, KeepL H H' → R' H x z → R' H' x z) (e : zs[i]? = some z) (p : LcP H1 D R' zs t f i H) (ht : t z = false)
    (s : ∀ b o, H b = some o → H3 b = some o) : LcP H1 D R' zs t f (i + 1) H3 := by
  obtain ⟨s1, ys, hd, a⟩ := p
  refine ⟨fun b o e => s _ _ (s1 _ _ e), ys, s _ _ hd, ?_⟩
  rw [filter_take_succ e, if_neg (by rw [ht]; simp), List.append_nil]
  exact a.mono fun x z _ r => mR' _ _ _ _ (.of s) r
theorem lcP_zero {t : α → Bool} {f : α → β} (hD : H1 D = none) : LcP H1 D R' zs t f 0 (upd H1 D (.lst [])) := ⟨fun b o e => by rw [upd_ne (ne_of_none e hD)]; exact e, [], upd_same, .nil⟩
/-- over a list whose items are known -/
theorem lcM_list {a : Addr} {xs : List V} (t : α → Bool) (f : α → β) (hD : H1 D = none) (hS : SqL K H1 a xs) (hx : All2 (R H1) xs zs) (mR : ∀ H H' x z, (∀ b o, H b = some o → H' b = some o) → R H x z → R H' x z) (mR' : ∀ H H' x z, KeepL H H' → R' H x z → R' H' x z) (hz : zs.length < sizeLine)
    (step : ∀ (i : Nat) (x : V) (z : α) (H : Hp) (C : V → Hp → Prop) (C0 : Hp → Prop), zs[i]? = some z → (∀ b o, H1 b = some o → H b = some o) → R H x z →
      (t z = true → ∀ y H4, (∀ b o, H b = some o → H4 b = some o) → R' H4 y (f z) → C y H4) → (t z = false → ∀ H3, (∀ b o, H b = some o → H3 b = some o) → C0 H3) →
      g x (wipe σ vs) H fun σ2 H2 => wipe σ2 vs = wipe σ vs ∧ tt σ2 H2 fun b H3 => if b = true then te σ2 H3 C else C0 H3)
    (fin : ∀ ys H, (∀ b o, H1 b = some o → H b = some o) → H D = some (.lst ys) → All2 (R' H) ys ((zs.filter t).map f) → Qd H) :
    ∃ W : Nat → Nat → Hp → Prop, (∃ m, W 0 m (upd H1 D (.lst []))) ∧ ∀ i m H, W i m H →
      ((Itl K a).stop i H ∧ Qd H) ∨ ((Itl K a).go i H ∧ ∃ Nx : Hp → Prop, (∀ H', Nx H' → ∃ m', m' < m ∧ W (i + 1) m' H') ∧ ∀ x H', (Itl K a).yld i H x H' → g x (wipe σ vs) H' fun σ2 H2 => wipe σ2 vs = wipe σ vs ∧ tt σ2 H2 fun b H3 =>
        if b = true then te σ2 H3 fun y H4 => ∃ acc, H4 D = some (.lst acc) ∧ acc.length < sizeLine ∧ Nx (upd H4 D (.lst (acc ++ [y]))) else Nx H3) := by
  have el := hx.length
  refine lc_list (xs := xs) (LcP H1 D R' zs t f) (lcP_zero hD) (fun i H _ p => sqL_same p.1 hS) (fun i x H hi p => ?_) (fun H p => ?_)
  · obtain ⟨z, e, r⟩ := hx.get hi
    exact step i x z H _ _ e p.1 (mR _ _ _ _ p.1 r) (fun ht y H4 s r => lcP_put hD mR' hz e p ht s r) (fun ht H3 s => lcP_skip mR' e p ht s)
  · obtain ⟨s1, ys, hd, a2⟩ := p
    rw [el, List.take_length] at a2
    exact fin ys H s1 hd a2
/-- over a tuple -/
theorem lcM_tup {a : Addr} {xs : List V} (t : α → Bool) (f : α → β) (hD : H1 D = none) (hS : SqT K H1 a xs) (hx : All2 (R H1) xs zs) (mR : ∀ H H' x z, (∀ b o, H b = some o → H' b = some o) → R H x z → R H' x z) (mR' : ∀ H H' x z, KeepL H H' → R' H x z → R' H' x z) (hz : zs.length < sizeLine)
    (step : ∀ (i : Nat) (x : V) (z : α) (H : Hp) (C : V → Hp → Prop) (C0 : Hp → Prop), zs[i]? = some z → (∀ b o, H1 b = some o → H b = some o) → R H x z →
      (t z = true → ∀ y H4, (∀ b o, H b = some o → H4 b = some o) → R' H4 y (f z) → C y H4) → (t z = false → ∀ H3, (∀ b o, H b = some o → H3 b = some o) → C0 H3) →
      g x (wipe σ vs) H fun σ2 H2 => wipe σ2 vs = wipe σ vs ∧ tt σ2 H2 fun b H3 => if b = true then te σ2 H3 C else C0 H3)
    (fin : ∀ ys H, (∀ b o, H1 b = some o → H b = some o) → H D = some (.lst ys) → All2 (R' H) ys ((zs.filter t).map f) → Qd H) :
    ∃ W : Nat → Nat → Hp → Prop, (∃ m, W 0 m (upd H1 D (.lst []))) ∧ ∀ i m H, W i m H →
      ((Itt K a).stop i H ∧ Qd H) ∨ ((Itt K a).go i H ∧ ∃ Nx : Hp → Prop, (∀ H', Nx H' → ∃ m', m' < m ∧ W (i + 1) m' H') ∧ ∀ x H', (Itt K a).yld i H x H' → g x (wipe σ vs) H' fun σ2 H2 => wipe σ2 vs = wipe σ vs ∧ tt σ2 H2 fun b H3 =>
        if b = true then te σ2 H3 fun y H4 => ∃ acc, H4 D = some (.lst acc) ∧ acc.length < sizeLine ∧ Nx (upd H4 D (.lst (acc ++ [y]))) else Nx H3) := by
  have el := hx.length
  refine lc_tup (xs := xs) (LcP H1 D R' zs t f) (lcP_zero hD) (fun i H _ p => sqT_same p.1 hS) (fun i x H hi p => ?_) (fun H p => ?_)
  · obtain ⟨z, e, r⟩ := hx.get hi
    exact step i x z H _ _ e p.1 (mR _ _ _ _ p.1 r) (fun ht y H4 s r => lcP_put hD mR' hz e p ht s r) (fun ht H3 s => lcP_skip mR' e p ht s)
  · obtain ⟨s1, ys, hd, a2⟩ := p
    rw [el, List.take_length] at a2
    exact fin ys H s1 hd a2
/-- over a range -/
theorem lcM_range {lo : Int} {n : Nat} (t : Nat → Bool) (f : Nat → β) (hD : H1 D = none) (mR' : ∀ H H' x z, KeepL H H' → R' H x z → R' H' x z) (hz : n < sizeLine)
    (step : ∀ (i : Nat) (H : Hp) (C : V → Hp → Prop) (C0 : Hp → Prop), i < n → (∀ b o, H1 b = some o → H b = some o) →
      (t i = true → ∀ y H4, (∀ b o, H b = some o → H4 b = some o) → R' H4 y (f i) → C y H4) → (t i = false → ∀ H3, (∀ b o, H b = some o → H3 b = some o) → C0 H3) →
      g (.int (lo + i)) (wipe σ vs) H fun σ2 H2 => wipe σ2 vs = wipe σ vs ∧ tt σ2 H2 fun b H3 => if b = true then te σ2 H3 C else C0 H3)
    (fin : ∀ ys H, (∀ b o, H1 b = some o → H b = some o) → H D = some (.lst ys) → All2 (R' H) ys (((List.range n).filter t).map f) → Qd H) :
    ∃ W : Nat → Nat → Hp → Prop, (∃ m, W 0 m (upd H1 D (.lst []))) ∧ ∀ i m H, W i m H →
      ((Itr lo n).stop i H ∧ Qd H) ∨ ((Itr lo n).go i H ∧ ∃ Nx : Hp → Prop, (∀ H', Nx H' → ∃ m', m' < m ∧ W (i + 1) m' H') ∧ ∀ x H', (Itr lo n).yld i H x H' → g x (wipe σ vs) H' fun σ2 H2 => wipe σ2 vs = wipe σ vs ∧ tt σ2 H2 fun b H3 =>
        if b = true then te σ2 H3 fun y H4 => ∃ acc, H4 D = some (.lst acc) ∧ acc.length < sizeLine ∧ Nx (upd H4 D (.lst (acc ++ [y]))) else Nx H3) := by
  refine lc_range (LcP H1 D R' (List.range n) t f) (lcP_zero hD) (fun i H hi p => ?_) (fun H p => ?_)
  · have e : (List.range n)[i]? = some i := List.getElem?_range hi
    exact step i H _ _ hi p.1 (fun ht y H4 s r => lcP_put hD mR' (by rw [List.length_range]; exact hz) e p ht s r) (fun ht H3 s => lcP_skip mR' e p ht s)
  · obtain ⟨s1, ys, hd, a2⟩ := p
    have e2 : (List.range n).take n = List.range n := List.take_of_length_le (by rw [List.length_range]; exact Nat.le_refl _)
    rw [e2] at a2
    exact fin ys H s1 hd a2
end
end L2

set_option Elab.async false
set_option linter.all false
set_option maxRecDepth 100000
set_option maxHeartbeats 4000000
namespace T46
open PySem L2 EK
def letS : Str := "abcdefghijklmnopqrstuvwxyz"
/-- letters, so many at most -/
structure TxOk (m : Nat) (z : Str) : Prop where
  len : z.cps.toList.length ≤ m
  let_ : ∀ c ∈ z.cps.toList, c ∈ letS.cps.toList
theorem TxOk.mono {m n : Nat} {z : Str} (h : TxOk m z) (hm : m ≤ n) : TxOk n z := ⟨Nat.le_trans h.len hm, h.let_⟩
theorem cutS_take (z : Str) (k : Nat) : (cutS z none (some (k : Int))).cps.toList = z.cps.toList.take k := by
  show (((z.cps.toList.drop (HT.sIx z.length 0 none)).take (HT.sIx z.length z.length (some (k : Int)) - HT.sIx z.length 0 none))) = _
  rw [HT.sIx_none, HT.sIx_nat, List.drop_zero, Nat.sub_zero]
  have e : z.length = z.cps.toList.length := Array.length_toList.symm
  rw [e, Nat.min_def]
  split
  · rfl
  · rw [List.take_of_length_le (Nat.le_refl _), List.take_of_length_le (by omega)]
theorem cutS_drop (z : Str) (k : Nat) : (cutS z (some (k : Int)) none).cps.toList = z.cps.toList.drop k := by
  show (((z.cps.toList.drop (HT.sIx z.length 0 (some (k : Int)))).take (HT.sIx z.length z.length none - HT.sIx z.length 0 (some (k : Int))))) = _
  rw [HT.sIx_none, HT.sIx_nat]
  have e : z.length = z.cps.toList.length := Array.length_toList.symm
  rw [e, List.take_of_length_le (by rw [List.length_drop]; omega), Nat.min_def]
  split
  · rfl
  · rw [List.drop_of_length_le (Nat.le_refl _), List.drop_of_length_le (by omega)]
theorem cutS_mem (z : Str) (lo hi : Option Int) : ∀ c ∈ (cutS z lo hi).cps.toList, c ∈ z.cps.toList := fun c h => List.mem_of_mem_drop (List.mem_of_mem_take (show c ∈ ((z.cps.toList.drop (HT.sIx z.length 0 lo)).take (HT.sIx z.length z.length hi - HT.sIx z.length 0 lo)) from h))
theorem cutS_len (z : Str) (lo hi : Option Int) : (cutS z lo hi).cps.toList.length ≤ z.cps.toList.length := by
  have := cutS_length z lo hi
  rw [show (cutS z lo hi).length = (cutS z lo hi).cps.toList.length from Array.length_toList.symm, show z.length = z.cps.toList.length from Array.length_toList.symm] at this
  exact this
theorem joinL_nil : ∀ ys : List (List Nat), TL.joinL [] ys = ys.flatten
  | [] => rfl
  | [p] => by rw [List.flatten_cons, List.flatten_nil, List.append_nil]; rfl
  | p :: q :: r => (show p ++ TL.joinL [] (q :: r) = _ from by rw [joinL_nil (q :: r)]; rfl)
theorem join_list (ys : List Str) : (Txt.join "" ys).cps.toList = (ys.map fun y => y.cps.toList).flatten := by
  have e : ys = (ys.map fun y => y.cps.toList).map SX.S := by
    rw [List.map_map]
    exact (List.map_id' ys).symm.trans (List.map_congr_left fun y _ => (SX.S_tl y).symm)
  have h := SX.join_S [] (ys.map fun y => y.cps.toList)
  rw [← e, joinL_nil] at h
  exact congrArg (fun x : Str => x.cps.toList) h
theorem app_list (x y : Str) : (x ++ y).cps.toList = x.cps.toList ++ y.cps.toList := TL.tl_append x y
theorem sum_len (ys : List Str) : (ys.map (·.length)).sum = ((ys.map fun y => y.cps.toList).flatten).length := by
  rw [List.length_flatten, List.map_map]
  congr 1
theorem flat_mem {ys : List Str} {p : Nat → Prop} (h : ∀ y ∈ ys, ∀ c ∈ y.cps.toList, p c) : ∀ c ∈ ((ys.map fun y => y.cps.toList).flatten), p c := by
  intro c hc
  obtain ⟨l, hl, hcl⟩ := List.mem_flatten.mp hc
  obtain ⟨y, hy, rfl⟩ := List.mem_map.mp hl
  exact h y hy c hcl
theorem flat_len {ys : List Str} {k : Nat} (h : ∀ y ∈ ys, y.cps.toList.length ≤ k) : ((ys.map fun y => y.cps.toList).flatten).length ≤ ys.length * k := by
  induction ys with
  | nil => simp
  | cons y ys ih =>
    rw [List.map_cons, List.flatten_cons, List.length_append, List.length_cons, Nat.add_mul]
    have h1 := h y List.mem_cons_self
    have h2 := ih fun z hz => h z (List.mem_cons_of_mem _ hz)
    omega
theorem UrnAt.mono {H : Hp} {a : Addr} {n m : Int} (h : UrnAt H a n) (hm : n ≤ m) : UrnAt H a m := by
  obtain ⟨w0, w1, w2, e, h1, h2, h3, h4⟩ := h
  exact ⟨w0, w1, w2, e, h1, h2, h3, by omega⟩
theorem UrnAt.keep {H H' : Hp} {a : Addr} {n : Int} (h : UrnAt H a n) (s : ∀ o, H a = some o → H' a = some o) : UrnAt H' a n := by
  obtain ⟨w0, w1, w2, e, h1⟩ := h
  exact ⟨w0, w1, w2, s _ e, h1⟩
theorem KeepB.of {a : Addr} {H H' : Hp} (s : ∀ b o, H b = some o → H' b = some o) : KeepB a H H' := fun b o e _ => s b o e
theorem KeepB.rfl {a : Addr} {H : Hp} : KeepB a H H := fun _ _ e _ => e
structure TxtP (K : PySem.W.Frag) (mg : Str → Option Value) : Prop where
  len : mg "len" = none
  range : mg "range" = none
def spPick : Sp := fun vs H Q _ => ∃ (a : Addr) (n : Int) (x : V), vs = [.ref a, x] ∧ UrnAt H a n ∧ n ≤ 1000000 ∧
  ((∃ (l : Addr) (xs : List V), x = .ref l ∧ H l = some (.lst xs) ∧ l ≠ a ∧ 0 < xs.length ∧ xs.length ≤ 1000 ∧ ∀ (y : V) H', y ∈ xs → UrnAt H' a (n + 1) → KeepB a H H' → Q y H') ∨
   (∃ z : Str, x = .str z ∧ 0 < z.cps.toList.length ∧ z.cps.toList.length ≤ 1000 ∧ ∀ (c : Nat) H', c ∈ z.cps.toList → UrnAt H' a (n + 1) → KeepB a H H' → Q (.str ⟨#[c]⟩) H'))
def spText : Sp := fun vs H Q _ => ∃ (a : Addr) (n : Int) (m : Nat), vs = [.ref a, .int m] ∧ UrnAt H a n ∧ n ≤ 900000 ∧ m ≤ 300 ∧ ∀ z H', TxOk m z → UrnAt H' a (n + 700) → KeepB a H H' → Q (.str z) H'
abbrev NTX : List Str := ["_law_well_here", "_law_most", "_law_signs", "_law_size", "_law_way", "_law_word", "_law_one", "_law_other", "_law_turn", "_law_k"]
section
variable {P : Program} {w : World} {K : PySem.W.Frag} {mg : Str → Option Value} {base : Heap}
theorem scPick : FnScope ["_law_well_here", "_law_some"] ["_law_well_here", "_law_some"] (defScope sPick) := ⟨rfl, rfl, rfl, by decide +kernel, rfl, by decide +kernel, by decide +kernel⟩
theorem scText : FnScope NTX ["_law_well_here", "_law_most"] (defScope sText) := ⟨rfl, rfl, rfl, by decide +kernel, rfl, by decide +kernel, by decide +kernel⟩
theorem ok_pick {f fP : Addr} {fd fdP : FuncData} (F : Fun K "_law_pick" "_law_pick" sPick f fd) (T : TxtP K mg)
    (GP : FnOk P w K mg base CX0 1 fP fdP ["_law_well_here", "_law_bound"] spPull) (gP : mg "_law_draw" = some (.ref fP)) (kP : PySem.W.keepIn K (.ref fP) = true) (bP : Binds K fdP ["_law_well_here", "_law_bound"] []) :
    FnOk P w K mg base CX0 2 f fd ["_law_well_here", "_law_some"] spPick := by
  refine F.ok scPick (fun vs H Q E h => ?_) (fun cdv A outer s H vs Q E hr h => ?_)
  · obtain ⟨a, n, x, rfl, _⟩ := h
    rfl
  · obtain ⟨a, n, x, rfl, hw, hn, h⟩ := h
    rcases h with ⟨l, xs, rfl, hl, hla, h1, h2, k⟩ | ⟨z, rfl, h1, h2, k⟩
    · refine ⟨_, pss_one (ps_ret (pe_ix ix_list (pv 1) (pe_call GP hr rfl gP kP bP .nil pass0 (pa_cons (pv 0) (pa_cons (pe_callB call_len_seq (by rfl) T.len (by decide +kernel) (pa_cons (pv 1) pa_nil)) pa_nil))) (fun _ _ => rfl))), ?_⟩
      refine ⟨_, rfl, _, rfl, _, rfl, l, xs, rfl, .inl (.of hl), a, _, n, rfl, hw, hn, by omega, by omega, fun d H' hd hd2 hw' hk => ?_⟩
      obtain ⟨j, rfl⟩ : ∃ j : Nat, d = (j : Int) := ⟨d.toNat, by omega⟩
      have hj : j < xs.length := by omega
      refine ⟨l, xs, _, xs[j], rfl, rfl, .of (hk l _ hl hla), atI_nat (List.getElem?_eq_getElem hj), ?_⟩
      exact k _ _ (List.getElem_mem hj) hw' hk
    · have hz : sizeLine = 2 ^ 24 := sizeLine_eq
      have hzl : z.length = z.cps.toList.length := Array.length_toList.symm
      refine ⟨_, pss_one (ps_ret (pe_ix ix_str (pv 1) (pe_call GP hr rfl gP kP bP .nil pass0 (pa_cons (pv 0) (pa_cons (pe_callB call_len_str (by rfl) T.len (by decide +kernel) (pa_cons (pv 1) pa_nil)) pa_nil))) (fun _ _ => rfl))), ?_⟩
      refine ⟨_, rfl, _, rfl, _, rfl, z, rfl, by omega, a, _, n, rfl, hw, hn, by omega, by omega, fun d H' hd hd2 hw' hk => ?_⟩
      obtain ⟨j, rfl⟩ : ∃ j : Nat, d = (j : Int) := ⟨d.toNat, by omega⟩
      have hj : j < z.cps.toList.length := by omega
      refine ⟨z, _, z.cps.toList[j], rfl, rfl, by omega, atI_nat (List.getElem?_eq_getElem hj), ?_⟩
      exact k _ _ (List.getElem_mem hj) hw' hk
def lets7 : List Str := ["a", "ab", "ab", "abc", "axz", "abcdef"]
theorem good7 : ∀ L ∈ lets7, (decide (0 < L.cps.toList.length) && decide (L.cps.toList.length ≤ 26) && L.cps.toList.all fun c => decide (c ∈ letS.cps.toList)) = true := by decide +kernel
/-- drawn signs, one by one -/
def PkP (H1 : Hp) (a : Addr) (D : Addr) (n : Int) (q k : Nat) (i : Nat) (H : Hp) : Prop := UrnAt H a (n + (q * i : Nat)) ∧ KeepB a H1 H ∧ ∃ ys : List Str, H D = some (.lst (ys.map V.str)) ∧ ys.length = i ∧ ∀ y ∈ ys, y.cps.toList.length ≤ k ∧ ∀ c ∈ y.cps.toList, c ∈ letS.cps.toList
theorem pk_zero {H1 : Hp} {a D : Addr} {n : Int} {q k : Nat} (hw : UrnAt H1 a n) (nD : H1 D = none) : PkP H1 a D n q k 0 (upd H1 D (.lst [])) := by
  have s : ∀ b o, H1 b = some o → upd H1 D (.lst []) b = some o := fun b o e => by rw [upd_ne (ne_of_none e nD)]; exact e
  exact ⟨(hw.keep (s a)).mono (by omega), .of s, [], upd_same, rfl, fun y hy => (by cases hy)⟩
theorem pk_step {H1 H3 H4 : Hp} {a D : Addr} {n n0 : Int} {q k i : Nat} {y : Str} (nD : H1 D = none) (hw : UrnAt H1 a n0) (p : PkP H1 a D n q k i H3) (hk : KeepB a H3 H4) (hu : UrnAt H4 a (n + (q * (i + 1) : Nat))) (hi : i ≤ 1000000) (hy : y.cps.toList.length ≤ k ∧ ∀ c ∈ y.cps.toList, c ∈ letS.cps.toList) :
    ∃ acc, H4 D = some (.lst acc) ∧ acc.length < sizeLine ∧ PkP H1 a D n q k (i + 1) (upd H4 D (.lst (acc ++ [.str y]))) := by
  obtain ⟨_, k1, ys, hd, hl, hg⟩ := p
  have hDa : D ≠ a := fun e => by
    obtain ⟨_, _, _, e2, _⟩ := hw
    rw [e, e2] at nD
    cases nD
  have hz : sizeLine = 2 ^ 24 := sizeLine_eq
  refine ⟨_, hk _ _ hd hDa, by rw [List.length_map]; omega, hu.keep fun o e => by rw [upd_ne (Ne.symm hDa)]; exact e, fun b o e hb => ?_, ys ++ [y], by rw [upd_same, List.map_append]; rfl, by rw [List.length_append, hl]; rfl, fun z hz => ?_⟩
  · rw [upd_ne (ne_of_none e nD)]
    exact hk _ _ (k1 _ _ e hb) hb
  · rcases List.mem_append.mp hz with h | h
    · exact hg z h
    · rw [List.mem_singleton.mp h]
      exact hy
theorem pk_sign {L : Str} (h : ∀ c ∈ L.cps.toList, c ∈ letS.cps.toList) {c : Nat} (hc : c ∈ L.cps.toList) : (⟨#[c]⟩ : Str).cps.toList.length ≤ 1 ∧ ∀ d ∈ (⟨#[c]⟩ : Str).cps.toList, d ∈ letS.cps.toList := ⟨Nat.le_refl _, fun d hd => by
  rw [List.mem_singleton.mp hd]
  exact h c hc⟩
theorem ok_text {f fP fI : Addr} {fd fdP fdI : FuncData} (F : Fun K "_law_text" "_law_text" sText f fd) (T : TxtP K mg)
    (GP : FnOk P w K mg base CX0 1 fP fdP ["_law_well_here", "_law_bound"] spPull) (gP : mg "_law_draw" = some (.ref fP)) (kP : PySem.W.keepIn K (.ref fP) = true) (bP : Binds K fdP ["_law_well_here", "_law_bound"] [])
    (GI : FnOk P w K mg base CX0 2 fI fdI ["_law_well_here", "_law_some"] spPick) (gI : mg "_law_pick" = some (.ref fI)) (kI : PySem.W.keepIn K (.ref fI) = true) (bI : Binds K fdI ["_law_well_here", "_law_some"] []) :
    FnOk P w K mg base CX0 3 f fd ["_law_well_here", "_law_most"] spText := by
  refine F.ok scText (fun vs H Q E h => ?_) (fun cdv A outer s H vs Q E hr h => ?_)
  · obtain ⟨a, n, m, rfl, _⟩ := h
    rfl
  · obtain ⟨a, n, m, rfl, hw, hn, hm, k⟩ := h
    have nd := scText.nd
    have hr2 : Room 2 _ := hr
    have hr1 : Room 1 _ := hr.mono (by decide)
    have hz : sizeLine = 2 ^ 24 := sizeLine_eq
    refine ⟨_, (pss_cons (ps_set (i := 2) nd rfl (Or.inr rfl) (pe_call GI hr2 rfl gI kI bI .nil pass0 (pa_cons (pv 0) (pa_cons (pe_lst (pa_cons pe_str (pa_cons pe_str (pa_cons pe_str (pa_cons pe_str (pa_cons pe_str (pa_cons pe_str pa_nil))))))) pa_nil))))
      (pss_cons (ps_par (i := 3) (j := 4) (by rfl) nd rfl rfl (by decide) rfl rfl (pa_cons (pe_call GP hr1 rfl gP kP bP .nil pass0 (pa_cons (pv 0) (pa_cons (pe_op op_add (pv 1) pe_int) pa_nil))) (pa_cons (pe_call GP hr1 rfl gP kP bP .nil pass0 (pa_cons (pv 0) (pa_cons pe_int pa_nil))) pa_nil)) (by rfl))
      (pss_cons (ps_if (pt_cmpR op_eq (pv 4) pe_int (nomark _)) (pss_cons (ps_set (i := 5) nd rfl (Or.inl rfl) (pe_join pe_str (pe_lc (own := [("_law_k", 9)]) (g := gName 9) (tt := tYes) rfl nd (pi_range1 (by rfl) T.range (pa_cons (pe_op op_add pe_int (pe_call GP hr1 rfl gP kP bP .nil pass0 (pa_cons (pv 0) (pa_cons pe_int pa_nil)))) pa_nil)) (blkOk_by (N := ["_law_well_here", "_law_most", "_law_signs", "_law_size", "_law_way", "_law_word", "_law_one", "_law_other", "_law_turn", "_law_k"]) (sc := defScope sText) (by decide +kernel)) (fun _ _ _ _ _ => (pg_name (i := 9) nd rfl (Or.inl rfl))) (fun _ _ _ _ _ => pts_nil) (fun _ _ _ _ _ => (pe_call GI hr2 rfl gI kI bI .nil pass0 (pa_cons (pv 0) (pa_cons (pv 2) pa_nil)))))))
      (pss_one (ps_ret (pe_slice sl_str (pe_op op_mulS (pv 5) (pe_op op_add (pv 3) pe_int)) po_none (po_some (pv 3)))))) pss_nil)
      (pss_cons (ps_if (pt_cmpR op_eq (pv 4) pe_int (nomark _)) (pss_one (ps_ret (pe_slice sl_str (pe_join pe_str (pe_lc (own := [("_law_k", 9)]) (g := gName 9) (tt := tYes) rfl nd (pi_range1 (by rfl) T.range (pa_cons (pv 3) pa_nil)) (blkOk_by (N := ["_law_well_here", "_law_most", "_law_signs", "_law_size", "_law_way", "_law_word", "_law_one", "_law_other", "_law_turn", "_law_k"]) (sc := defScope sText) (by decide +kernel)) (fun _ _ _ _ _ => (pg_name (i := 9) nd rfl (Or.inl rfl))) (fun _ _ _ _ _ => pts_nil) (fun _ _ _ _ _ => (pe_op op_mulS (pe_call GI hr2 rfl gI kI bI .nil pass0 (pa_cons (pv 0) (pa_cons (pv 2) pa_nil))) (pe_op op_add pe_int (pe_call GP hr1 rfl gP kP bP .nil pass0 (pa_cons (pv 0) (pa_cons pe_int pa_nil)))))))) po_none (po_some (pv 3))))) pss_nil)
      (pss_cons (ps_if (pt_cmpR op_eq (pv 4) pe_int (nomark _)) (pss_cons (ps_par (i := 6) (j := 7) (by rfl) nd rfl rfl (by decide) rfl rfl (pa_cons (pe_slice sl_str (pv 2) (po_some (pe_un un_neg pe_int)) po_none) (pa_cons (pe_op op_add_str (pe_slice sl_str (pv 2) (po_some (pe_un un_neg pe_int)) po_none) (pe_slice sl_str (pv 2) po_none (po_some pe_int))) pa_nil)) (by rfl))
      (pss_cons (ps_for PassesOwn.never rfl (pi_range1 (by rfl) T.range (pa_cons pe_int pa_nil)) (pg_name (i := 8) nd rfl (Or.inl rfl)) (pss_one (ps_par (i := 6) (j := 7) (by rfl) nd rfl rfl (by decide) rfl rfl (pa_cons (pv 7) (pa_cons (pe_op op_add_str (pv 7) (pv 6)) pa_nil)) (by rfl))))
      (pss_one (ps_ret (pe_slice sl_str (pe_op op_add_str (pe_call GI hr2 rfl gI kI bI .nil pass0 (pa_cons (pv 0) (pa_cons (pv 2) pa_nil))) (pv 7)) po_none (po_some (pv 3))))))) pss_nil)
      (pss_one (ps_ret (pe_join pe_str (pe_lc (own := [("_law_k", 9)]) (g := gName 9) (tt := tYes) rfl nd (pi_range1 (by rfl) T.range (pa_cons (pv 3) pa_nil)) (blkOk_by (N := ["_law_well_here", "_law_most", "_law_signs", "_law_size", "_law_way", "_law_word", "_law_one", "_law_other", "_law_turn", "_law_k"]) (sc := defScope sText) (by decide +kernel)) (fun _ _ _ _ _ => (pg_name (i := 9) nd rfl (Or.inl rfl))) (fun _ _ _ _ _ => pts_nil) (fun _ _ _ _ _ => (pe_call GI hr2 rfl gI kI bI .nil pass0 (pa_cons (pv 0) (pa_cons (pv 2) pa_nil))))))))))))), ?_⟩
    refine ⟨_, rfl, (by show 6 ≤ sizeLine; decide), fun p1 z1 => ?_⟩
    have A2 : upd H p1 (.lst (lets7.map V.str)) p1 = some (.lst (lets7.map V.str)) := upd_same
    have S2 : ∀ b o, H b = some o → upd H p1 (.lst (lets7.map V.str)) b = some o := fun b o e => by rw [upd_ne (ne_of_none e z1)]; exact e
    obtain ⟨w0, w1, w2, hwa, hwb⟩ := hw
    have hpa : p1 ≠ a := fun e => by rw [e, hwa] at z1; cases z1
    have hw2 : UrnAt (upd H p1 (.lst (lets7.map V.str))) a n := ⟨w0, w1, w2, S2 _ _ hwa, hwb⟩
    refine ⟨a, n, _, rfl, hw2, by omega, .inl ⟨p1, lets7.map V.str, rfl, A2, hpa, (by decide), (by decide), fun y H3 hy hw3 hk3 => ?_⟩⟩
    obtain ⟨L, hL, rfl⟩ := List.mem_map.mp (show y ∈ lets7.map V.str from hy)
    have g7 := good7 L hL
    rw [Bool.and_eq_true, Bool.and_eq_true, decide_eq_true_eq, decide_eq_true_eq, List.all_eq_true] at g7
    obtain ⟨⟨L0, L1⟩, L2'⟩ := g7
    have L2 : ∀ c ∈ L.cps.toList, c ∈ letS.cps.toList := fun c hc => of_decide_eq_true (L2' c hc)
    have hk13 : KeepB a H H3 := (KeepB.of S2).trans hk3
    refine ⟨_, rfl, _, rfl, _, _, rfl, rfl, a, _, _, rfl, hw3, by omega, by omega, by omega, fun d1 H4 d1a d1b hw4 hk4 => ?_⟩
    refine ⟨_, rfl, a, _, _, rfl, hw4, by omega, by decide, by decide, fun d2 H5 d2a d2b hw5 hk5 => ?_⟩
    have hk15 : KeepB a H H5 := (hk13.trans hk4).trans hk5
    obtain ⟨sz, rfl⟩ : ∃ j : Nat, d1 = (j : Int) := ⟨d1.toNat, by omega⟩
    have hsz : sz ≤ m := by omega
    refine ⟨_, _, rfl, _, rfl, rfl, _, rfl, ?_⟩
    refine ite2 (fun h0 => ?_) (fun h0 => ?_)
    · refine ⟨⟨_, rfl⟩, _, rfl, a, _, _, rfl, hw5, by omega, by decide, by decide, fun d3 H6 d3a d3b hw6 hk6 => ?_⟩
      obtain ⟨c3, hc3⟩ : ∃ j : Nat, (1 + d3).toNat = j := ⟨_, rfl⟩
      have hc3b : c3 ≤ 6 := by omega
      refine ⟨_, _, rfl, rfl, _, rfl, by omega, by omega, fun D nD => ?_⟩
      rw [hc3]
      refine lc_range (lo := 0) (n := c3) (PkP H6 a D (n + 4) 1 1) (pk_zero (hw6.mono (by omega)) nD) ?_ ?_
      · rintro i H7 hi p7
        refine ⟨rfl, _, rfl, _, rfl, a, _, _, rfl, p7.1, by omega, .inr ⟨L, rfl, L0, by omega, fun c H8 hc hw8 hk8 => ?_⟩⟩
        exact pk_step nD hw6 p7 hk8 (hw8.mono (by omega)) (by omega) (pk_sign L2 hc)
      · rintro H7 ⟨hw7, hk7, ys, hD, hyl, hyg⟩
        have f1 := flat_len fun y hy => (hyg y hy).1
        have f2 := flat_mem fun y hy => (hyg y hy).2
        refine ⟨_, _, ys, rfl, rfl, .inl (.of hD), ?_, ?_⟩
        · rw [sum_len]
          show _ + ys.length * 0 ≤ _
          omega
        have hjl := join_list ys
        refine ⟨_, rfl, _, rfl, _, _, rfl, rfl, _, _, rfl, rfl, by omega, by omega, ?_, ?_⟩
        · rw [hjl]
          have e : ((sz : Int) + 1).toNat = sz + 1 := by omega
          rw [e]
          exact Nat.le_trans (Nat.mul_le_mul (show _ ≤ 6 by omega) (show sz + 1 ≤ 301 by omega)) (by decide)
        · refine ⟨_, rfl, _, rfl, _, rfl, ?_, ?_⟩
          · rw [show (repS (Txt.join "" ys) _).length = _ from Array.length_toList.symm, repS_len, hjl]
            have e : ((sz : Int) + 1).toNat = sz + 1 := by omega
            rw [e]
            have := Nat.mul_le_mul (show sz + 1 ≤ 301 by omega) (show ((ys.map fun y => y.cps.toList).flatten).length ≤ 6 by omega)
            omega
          · refine k _ _ ⟨?_, ?_⟩ (hw7.mono (by omega)) (hk15.trans (hk6.trans hk7))
            · rw [cutS_take, List.length_take]
              omega
            · intro c hc
              have hc := cutS_mem _ _ _ c hc
              rw [repS_list] at hc
              obtain ⟨l, hl, hcl⟩ := List.mem_flatten.mp hc
              rw [(List.mem_replicate.mp hl).2, hjl] at hcl
              exact f2 c hcl
    refine ⟨_, rfl, rfl, _, rfl, ?_⟩
    refine ite2 (fun h1 => ?_) (fun h1 => ?_)
    · refine ⟨⟨_, rfl⟩, _, rfl, _, rfl, by omega, by omega, fun D nD => ?_⟩
      have en : ((sz : Int)).toNat = sz := by omega
      rw [en]
      refine lc_range (lo := 0) (n := sz) (PkP H5 a D (n + 3) 2 5) (pk_zero (hw5.mono (by omega)) nD) ?_ ?_
      · rintro i H7 hi p7
        refine ⟨rfl, _, rfl, _, rfl, a, _, _, rfl, p7.1, by omega, .inr ⟨L, rfl, L0, by omega, fun c H8 hc hw8 hk8 => ?_⟩⟩
        refine ⟨_, rfl, a, _, _, rfl, hw8, by omega, by decide, by decide, fun d3 H9 d3a d3b hw9 hk9 => ?_⟩
        refine ⟨_, _, rfl, rfl, _, _, rfl, rfl, by omega, by omega, ?_, ?_⟩
        · show 1 * _ ≤ _
          omega
        have h4 : (repS ⟨#[c]⟩ (1 + d3).toNat).cps.toList.length ≤ 5 := by
          rw [repS_len]
          show _ * 1 ≤ 5
          omega
        refine pk_step nD hw5 p7 (hk8.trans hk9) (hw9.mono (by omega)) (by omega) ⟨h4, fun x hx => ?_⟩
        rw [repS_list] at hx
        obtain ⟨l, hl, hcl⟩ := List.mem_flatten.mp hx
        rw [(List.mem_replicate.mp hl).2] at hcl
        exact (pk_sign L2 hc).2 x hcl
      · rintro H7 ⟨hw7, hk7, ys, hD, hyl, hyg⟩
        have f1 := flat_len fun y hy => (hyg y hy).1
        have f2 := flat_mem fun y hy => (hyg y hy).2
        have hjl := join_list ys
        refine ⟨_, _, ys, rfl, rfl, .inl (.of hD), ?_, ?_⟩
        · rw [sum_len]
          show _ + ys.length * 0 ≤ _
          omega
        refine ⟨_, rfl, _, rfl, _, rfl, ?_, ?_⟩
        · rw [show (Txt.join "" ys).length = _ from Array.length_toList.symm, hjl]
          omega
        · refine k _ _ ⟨?_, ?_⟩ (hw7.mono (by omega)) (hk15.trans hk7)
          · rw [cutS_take, List.length_take]
            omega
          · intro c hc
            have hc := cutS_mem _ _ _ c hc
            rw [hjl] at hc
            exact f2 c hc
    refine ⟨_, rfl, rfl, _, rfl, ?_⟩
    refine ite2 (fun h2 => ?_) (fun h2 => ?_)
    · have hL26 : L.length ≤ sizeLine := by
        rw [show L.length = _ from Array.length_toList.symm]
        omega
      have c1 : (cutS L none (some 1)).cps.toList.length ≤ 1 := by
        rw [show (some 1 : Option Int) = some ((1 : Nat) : Int) from rfl, cutS_take, List.length_take]
        omega
      have c2 := cutS_len L (some (-1)) none
      refine ⟨_, rfl, 1, rfl, -1, rfl, L, rfl, hL26, _, rfl, 1, rfl, -1, rfl, L, rfl, hL26, _, rfl, 1, rfl, L, rfl, hL26, _, _, rfl, rfl, ?_, _, _, rfl, ?_⟩
      · rw [show (cutS L (some (-1)) none).length = _ from Array.length_toList.symm, show (cutS L none (some 1)).length = _ from Array.length_toList.symm]
        omega
      refine ⟨_, rfl, by decide, by decide, for_range (lo := 0) (n := 9) (fun i σ H' => H' = H5 ∧ ∃ (x y : Str) (v9 : Option V), σ = [some (.ref a), some (.int m), some (.str L), some (.int sz), some (.int d2), none, some (.str x), some (.str y), v9, none] ∧
        x.cps.toList.length ≤ 27 * 2 ^ i ∧ y.cps.toList.length ≤ 27 * 2 ^ i ∧ (∀ c ∈ x.cps.toList, c ∈ letS.cps.toList) ∧ ∀ c ∈ y.cps.toList, c ∈ letS.cps.toList) ⟨rfl, _, _, none, rfl, by omega, ?_, fun c hc => L2 c (cutS_mem _ _ _ c hc), fun c hc => ?_⟩ ?_ ?_⟩
      · rw [app_list, List.length_append]
        omega
      · rw [app_list] at hc
        rcases List.mem_append.mp hc with h | h
        · exact L2 c (cutS_mem _ _ _ c h)
        · exact L2 c (cutS_mem _ _ _ c h)
      · rintro i σ H7 hi ⟨rfl, x, y, v9, rfl, hx, hy, gx, gy⟩
        have hp : 2 ^ i ≤ 2 ^ 9 := Nat.pow_le_pow_right (by decide) (by omega)
        have hp1 : 2 ^ (i + 1) = 2 * 2 ^ i := by rw [Nat.pow_succ, Nat.mul_comm]
        refine ⟨_, rfl, _, rfl, _, rfl, _, _, rfl, rfl, ?_, _, _, rfl, rfl, _, _, _, rfl, by omega, ?_, gy, fun c hc => ?_⟩
        · rw [show y.length = _ from Array.length_toList.symm, show x.length = _ from Array.length_toList.symm]
          omega
        · rw [app_list, List.length_append]
          omega
        · rw [app_list] at hc
          rcases List.mem_append.mp hc with h | h
          · exact gy c h
          · exact gx c h
      · rintro σ H7 ⟨rfl, x, y, v9, rfl, hx, hy, gx, gy⟩
        refine ⟨_, rfl, _, rfl, a, _, _, rfl, hw5, by omega, .inr ⟨L, rfl, L0, by omega, fun c H8 hc hw8 hk8 => ?_⟩⟩
        have hy2 : y.cps.toList.length ≤ 27 * 512 := hy
        refine ⟨_, rfl, _, _, rfl, rfl, ?_, _, rfl, _, rfl, _, rfl, ?_, ?_⟩
        · rw [show y.length = _ from Array.length_toList.symm]
          show 1 + _ ≤ _
          omega
        · rw [show (_ ++ y).length = _ from Array.length_toList.symm, app_list, List.length_append]
          show 1 + _ ≤ _
          omega
        · refine k _ _ ⟨?_, fun x hx => ?_⟩ (hw8.mono (by omega)) (hk15.trans hk8)
          · rw [cutS_take, List.length_take]
            omega
          · have hx := cutS_mem _ _ _ x hx
            rw [app_list] at hx
            rcases List.mem_append.mp hx with h | h
            · exact (pk_sign L2 hc).2 x h
            · exact gy x h
    refine ⟨⟨_, rfl⟩, _, rfl, _, rfl, by omega, by omega, fun D nD => ?_⟩
    have en : ((sz : Int)).toNat = sz := by omega
    rw [en]
    refine lc_range (lo := 0) (n := sz) (PkP H5 a D (n + 3) 1 1) (pk_zero (hw5.mono (by omega)) nD) ?_ ?_
    · rintro i H7 hi p7
      refine ⟨rfl, _, rfl, _, rfl, a, _, _, rfl, p7.1, by omega, .inr ⟨L, rfl, L0, by omega, fun c H8 hc hw8 hk8 => ?_⟩⟩
      exact pk_step nD hw5 p7 hk8 (hw8.mono (by omega)) (by omega) (pk_sign L2 hc)
    · rintro H7 ⟨hw7, hk7, ys, hD, hyl, hyg⟩
      have f1 := flat_len fun y hy => (hyg y hy).1
      have f2 := flat_mem fun y hy => (hyg y hy).2
      have hjl := join_list ys
      refine ⟨_, _, ys, rfl, rfl, .inl (.of hD), ?_, ?_⟩
      · rw [sum_len]
        show _ + ys.length * 0 ≤ _
        omega
      · refine k _ _ ⟨?_, ?_⟩ (hw7.mono (by omega)) (hk15.trans hk7)
        · rw [hjl]
          omega
        · rw [hjl]
          exact f2
end
end T46

set_option Elab.async false
set_option linter.all false
set_option maxRecDepth 100000
set_option maxHeartbeats 4000000
/-! RaiseKit: an error raised; several clauses, with and without names; what a lambda handed over says. -/
namespace L2
open PySem PySem.Spec PyProof.Rows EK
section
variable {X : Cx} {C fI : Addr} {x f : Str}
/-- x(e), made to be raised: its own dict, new, holds the value -/
def tErrMk (C : Addr) (f : Str) (ta : TA) : St → Hp → XK → Prop := fun σ H Q => ta σ H fun vs H1 => ∃ v, vs = [v] ∧ ∀ d, H1 d = none → Q (.ref C) (some d) (upd H1 d (.xd [(f, v)]))
theorem pmk_err {a : Expr} {ta : TA} {p pos : Pos} {k : Nat} (T : ErrTxt X.prog X.K X.mg x f C fI) (hr : Room k X.A) (ha : PA X [a] ta) (hg : Gl X x) (hd : (x == ("__debug__" : Str)) = false := by decide)
    (he : starEach (a :: []) X.env = (false, eval a X.env) :: starEach [] X.env := by rfl) (hpl : (backTo pos (starEach [] X.env)).any (·.1) = false := by rfl) :
    PMk X (.Call (.Name x p) [a] [] pos) (tErrMk C f ta) := by
  intro pins s σ H Q I h
  refine wpAny_Call_Name_kw (ld_glob I hg T.gC ?_ hd)
  refine PySem.W.callWith_K (h₀ := X.base) I.ok.mod.kin T.kC (thn (ha.run pos pins s σ H _ I h) fun us s1 hh => ?_) he hpl
  obtain ⟨vs, H1, I1, r1, v, ev, q1⟩ := hh
  subst ev
  refine ⟨I1.kIn, ?_⟩
  cases r1 with
  | cons rv rn =>
    rename_i v' us'
    cases rn
    show wpAny _ _ (call (.ref C) [v']) _ _ _
    have hlim := I1.nolimit
    obtain ⟨hp, g, dr, tk, os⟩ := s1
    obtain ⟨mb, hb1, hb2⟩ := I1.mod.blt
    refine wpAny_call (err_made T I1.kIn hlim (I1.mod.glob.keeps I1.bk) ⟨mb, hb1.keeps I1.bk, hb2⟩ (by have := hr.dp; omega) fun h' tk' e d M => ?_)
    show MkP X pins σ Q (.ref e) ⟨h', g, dr, tk', os⟩
    obtain ⟨t1, hoe⟩ := M.obj
    obtain ⟨G, g1, g2⟩ := restrict h' fun b => decide (b ≠ e)
    have gk : ∀ b, b ≠ e → G.get? b = h'.get? b := fun b hb => g1 b (decide_eq_true hb)
    have ge : G.get? e = none := g2 e (by simp)
    have gs : ∀ b o, G.get? b = some o → h'.get? b = some o := fun b o q => by
      by_cases hbe : b = e
      · rw [hbe, ge] at q
        cases q
      · exact (gk b hbe).symm.trans q
    have old : ∀ b o, hp.get? b = some o → G.get? b = some o := fun b o q => (gk b (Nat.ne_of_lt (Nat.lt_of_lt_of_le (Heap.lt_size q) M.new))).trans (M.keep b o q)
    have ob : ObjOk X.prog X.w (upd H1 d (.xd [(f, v)])) G d (.xd [(f, v)]) := ⟨_, M.ns.at (fun o q => (gk d M.dne).trans q), relO_one rv⟩
    have J : Inv X pins σ (upd H1 d (.xd [(f, v)])) ⟨G, g, dr, tk', os⟩ := I1.laid (t' := tk') old M.dbig ob
    have ne : (upd H1 d (.xd [(f, v)])) e = none := by
      rw [upd_ne (Ne.symm M.dne)]
      exact I1.hok.fresh M.new
    exact ⟨e, _, _, ⟨G, g, dr, tk', os⟩, _, .ref C, some d, rfl, J, gs, ge, hoe, ⟨rfl, rfl⟩, rfl, rfl, ne, rfl, I1.bare, raises_own T.exC T.tyC, q1 d (I1.hok.fresh M.dbig)⟩
theorem ps_raiseErr {a : Expr} {ta : TA} {W : WX} {p pos pos2 : Pos} {k : Nat} (hc : X.calm = true) (T : ErrTxt X.prog X.K X.mg x f C fI) (hr : Room k X.A) (tk : Takes X W) (ha : PA X [a] ta) (hg : Gl X x) (hd : (x == ("__debug__" : Str)) = false := by decide)
    (he : starEach (a :: []) X.env = (false, eval a X.env) :: starEach [] X.env := by rfl) (hpl : (backTo pos (starEach [] X.env)).any (·.1) = false := by rfl) :
    PS X (.Raise (some (.Call (.Name x p) [a] [] pos)) none pos2) (fun _ σ H => tErrMk C f ta σ H fun cls d H' => W cls d σ H') := ps_raise hc tk (pmk_err T hr ha hg hd he hpl)
end
/-! ### try with several clauses -/
structure Cl where
  c : Value
  i : Option Nat
  ts : Addr → Value → Option Addr → TS
def Ends.drop (D : Ends) (i : Nat) : Ends := { nx := fun s h => D.nx (s.set i none) h, rt := D.rt, bk := fun s h => D.bk (s.set i none) h, ct := fun s h => D.ct (s.set i none) h }
def Cl.run (k : Cl) (a : Addr) (cls : Value) (d : Option Addr) : TS := fun D σ H => match k.i with
  | none => k.ts a cls d D σ H
  | some i => i < σ.length → k.ts a cls d (D.drop i) (σ.set i (some (.ref a))) H
def wCl (K : PySem.W.Frag) (Wout : WX) (D : Ends) : List Cl → WX
  | [] => Wout
  | k :: r => fun cls d σ H => ∃ b, PySem.W.exmOne K cls k.c = some b ∧ (b = true → ∀ a, H a = none → k.run a cls d D σ H) ∧ (b = false → wCl K Wout D r cls d σ H)
inductive ClOk (X : Cx) : List ExceptHandler → List Cl → Prop
  | nil : ClOk X [] []
  | un {x : Str} {c : Value} {ts : Addr → Value → Option Addr → TS} {b1 : Stmt} {suite : List Stmt} {np pos' : Pos} {hds : List ExceptHandler} {l : List Cl} (hc : Names X x c)
      (hsu : ∀ (a : Addr) (oe : Obj) (cls : Value) (d : Option Addr) (pn : List (Addr × Obj)), Zc cls d oe → (∃ vs, oe.data = .fields vs) → PSs (X.suite a ((a, oe) :: pn)) (b1 :: suite) (ts a cls d)) (r : ClOk X hds l) :
      ClOk X (.ExceptHandler (some (.Name x np)) none (b1 :: suite) pos' :: hds) (⟨c, none, ts⟩ :: l)
  | as {x n : Str} {i : Nat} {c : Value} {ts : Addr → Value → Option Addr → TS} {b1 : Stmt} {suite : List Stmt} {np pos' : Pos} {hds : List ExceptHandler} {l : List Cl} (hi : X.N[i]? = some n) (hln : X.env.kindOf n = some .local) (hc : Names X x c)
      (hsu : ∀ (a : Addr) (oe : Obj) (cls : Value) (d : Option Addr) (pn : List (Addr × Obj)), Zc cls d oe → (∃ vs, oe.data = .fields vs) → PSs (X.suite a ((a, oe) :: pn)) (b1 :: suite) (ts a cls d)) (r : ClOk X hds l) :
      ClOk X (.ExceptHandler (some (.Name x np)) (some n) (b1 :: suite) pos' :: hds) (⟨c, some i, ts⟩ :: l)
section
variable {X : Cx} {body : List Stmt} {hd0 : ExceptHandler} {hds : List ExceptHandler} {l : List Cl} {pos : Pos} {tb : WX → TS} {Wout : WX} {pins : List (Addr × Obj)} {s : Shared} {D : Ends}
/-- behind a suite: its end, the name gone -/
theorem sp_unsuite {a : Addr} {q : Addr × Obj} {f : Flow} (ok : X.Ok) (h : SP (X.suite a (q :: (X.pn ++ pins))) [] D f s) : SP X pins D f s := by
  cases f with
  | next =>
    obtain ⟨t, h1, J, z⟩ := h
    exact ⟨t, h1, J.unsuite ok, z⟩
  | brk =>
    obtain ⟨t, h1, J, z⟩ := h
    exact ⟨t, h1, J.unsuite ok, z⟩
  | cont =>
    obtain ⟨t, h1, J, z⟩ := h
    exact ⟨t, h1, J.unsuite ok, z⟩
  | ret u =>
    obtain ⟨v, t, h1, J, r, z⟩ := h
    exact ⟨v, t, h1, J.unsuite ok, r, z⟩
theorem sp_gone {n : Str} {i : Nat} {f : Flow} {pos' : Pos} (hN : X.N.Nodup) (hi : X.N[i]? = some n) (hln : X.env.kindOf n = some .local) (h : SP X pins (D.drop i) f s) :
    wpAny (model X.prog X.w) X.A (do bindName X.env n .none; unbindBehindTheSuite X.env n pos') (fun _ s7 => SP X pins D f s7) X.xe s := by
  cases f with
  | next =>
    obtain ⟨t, h1, J, z⟩ := h
    exact gone_ok J hN hi hln fun s7 J7 => ⟨_, _, J7, z⟩
  | brk =>
    obtain ⟨t, h1, J, z⟩ := h
    exact gone_ok J hN hi hln fun s7 J7 => ⟨_, _, J7, z⟩
  | cont =>
    obtain ⟨t, h1, J, z⟩ := h
    exact gone_ok J hN hi hln fun s7 J7 => ⟨_, _, J7, z⟩
  | ret u =>
    obtain ⟨v, t, h1, J, r, z⟩ := h
    exact gone_ok J hN hi hln fun s7 J7 => ⟨_, _, _, J7, r, z⟩
theorem names_ld {a : Addr} {oe : Obj} {pn : List (Addr × Obj)} {σ : St} {H : Hp} {x : Str} {c : Value} {np : Pos} (S : Inv (X.suite a ((a, oe) :: pn)) [] σ H s) (hc : Names X x c) {Q : Value → Shared → Prop} {E : Value → Shared → Prop} (q : Q c s) :
    wpAny (model X.prog X.w) (X.A.mark (some (.ref a))) (eval (.Name x np) X.env) Q E s := by
  obtain ⟨h1, h2, h3⟩ := hc
  rcases h3 with h3 | ⟨h3, h4, h5⟩
  · exact ld_glob (X := X.suite a ((a, oe) :: pn)) S h1 h3 q h2
  · exact ld_blt (X := X.suite a ((a, oe) :: pn)) S h1 h3 h4 q h5 h2
theorem ps_tryC (hs : X.stack = X.env :: X.outer) (hf : X.env.frame = some X.env.locals) (hN : X.N.Nodup) (tk : Takes X Wout)
    (hb : ∀ (W : WX) (pn : List (Addr × Obj)) (xe : Value → Shared → Prop), Takes (X.tr pn xe) W → PassesOwn (model X.prog X.w) X.A X.env xe → PSs (X.tr pn xe) body (tb W))
    (hh : ClOk X (hd0 :: hds) l) : PS X (.Try body (hd0 :: hds) [] [] pos) (fun D σ H => tb (wCl X.K Wout D l) D σ H) := by
  refine ⟨fun pins s σ H D I h => ?_⟩
  have ok := I.ok
  have hfr : X.A.frames = some (X.env :: X.outer) := ok.frames.trans (congrArg some hs)
  refine wpAny_Try_except (wpAny_mono ((hb (wCl X.K Wout D l) (X.pn ++ pins) _ (fun u s' xx => ?_) PassesOwn.looking).run [] s σ H D (I.toTry _) h) (fun fl s1 hsp => ?_) fun e s1 he => he)
  · -- an exception has come
    obtain ⟨a, B, sI, pins', σ', H', cls, d, rfl, J0, nb, up, sky, na, os, ag, w⟩ := xx
    have J : Inv X pins σ' H' sI := J0.ofTry ok
    rw [hs] at sky
    show wpAny (model X.prog X.w) X.A (noteFrame (.ref a) X.env) _ _ _
    refine Sky.land Zc.steady hfr hf sky fun h3 fl3 up3 => ?_
    have J3 : Inv X pins σ' H' { s' with heap := h3 } := J.landed nb fl3.1 (up.trans up3) os ag
    obtain ⟨oe3, vs3, he3, hz3, hd3⟩ := fl3.there
    have ff := fl3.2.2.1
    have away : ∀ b ∈ frs (X.env :: X.outer), a ≠ b := fun b hm z => by
      obtain ⟨_, o', e', hnf⟩ := ff.mem hm
      rw [← z, he3] at e'
      cases e'
      exact hnf _ hd3
    have nL : a ≠ X.env.locals := away _ (List.mem_filterMap.mpr ⟨X.env, List.mem_cons_self, hf⟩)
    have nF : a ∉ X.fs := fun hm => by
      obtain ⟨e, he, q⟩ := List.mem_filterMap.mp hm
      exact away a (List.mem_filterMap.mpr ⟨e, List.mem_cons_of_mem _ he, q⟩) rfl
    have S3 := J3.suite he3 hd3 na nL nF
    have LT : PySem.W.Looks (model X.prog X.w) h3 (typeOf (.ref a)) cls := fun A Q E s k q => wpAny_typeOf_ref (k _ _ he3) (by rw [hz3.1]; exact q)
    have test : ∀ {x : Str} {c : Value} {np : Pos}, Names X x c → ∀ {Q : Value → Shared → Prop} {E : Value → Shared → Prop}, Q c { s' with heap := h3 } → wpAny (model X.prog X.w) (X.A.mark (some (.ref a))) (eval (.Name x np) X.env) Q E { s' with heap := h3 } := fun hc => names_ld S3 hc
    have go : ∀ {hs2 : List ExceptHandler} {l2 : List Cl}, ClOk X hs2 l2 → wCl X.K Wout D l2 cls d σ' H' →
        wpAny (model X.prog X.w) X.A (handleBy (.ref a) X.env hs2) (SP X pins D) X.xe { s' with heap := h3 } := by
      intro hs2 l2 hk
      induction hk with
      | nil =>
        intro w
        refine wpAny_handleBy_nil ?_
        obtain ⟨_, _, _, oe, vs, T, oT, ts', he, hz, hd, h1, hr⟩ := id fl3
        unfold PySem.passOn
        refine wpAny_bind (wpAny_field he hd h1 ?_)
        rw [if_neg (show ¬ ((Value.ref T == Value.none) = true) from by simp)]
        have fin : wpAny (model X.prog X.w) X.A (setFlight (.ref a) X.env.frame) (fun _ s4 => wpAny (model X.prog X.w) X.A (throw (.ref a) : Sem Flow) (SP X pins D) X.xe s4) X.xe { s' with heap := h3 } := by
          rw [hf]
          exact HandSPX.setFlight_upZ fl3 fun h4 hh4 up4 => wpAny_throw (tk _ _ ⟨a, B, sI, pins, σ', H', cls, d, rfl, J, nb, (up.trans up3).trans up4, .inr (.inr (by rw [hs]; exact hh4)), na, os, ag, w⟩)
        first
          | exact wpAny_bind (wpAny_pure (wpAny_bind fin))
          | exact wpAny_bind fin
      | @un x c ts b1 suite np pos' hds2 l2 hc hsu r ih =>
        intro ⟨b, hb1, hyes, hno⟩
        refine wpAny_handleBy_cons (codeAny_handlers_test (test hc ((PySem.W.exm_one (M := model X.prog X.w) J3.kIn LT hb1).here ?_))) (by intro q; cases q)
        cases b with
        | false => exact ih (hno rfl)
        | true =>
          refine codeAny_handlers_suite (HandSPX.lands_againZ fl3 fun h4 fl4 up4 => ?_)
          have J4 : Inv X pins σ' H' { s' with heap := h4 } := J.landed nb fl4.1 ((up.trans up3).trans up4) os ag
          obtain ⟨oe4, vs4, he4, hz4, hd4⟩ := fl4.there
          exact wpAny_mono ((hsu a oe4 cls d (X.pn ++ pins) hz4 ⟨_, hd4⟩).run [] _ _ H' _ (J4.suite he4 hd4 na nL nF) (hyes rfl a na)) (fun f s6 hsp => sp_unsuite ok hsp) (fun _ _ z => False.elim z)
      | @as x n i c ts b1 suite np pos' hds2 l2 hi hln hc hsu r ih =>
        intro ⟨b, hb1, hyes, hno⟩
        refine wpAny_handleBy_cons (codeAny_handlers_test (test hc ((PySem.W.exm_one (M := model X.prog X.w) J3.kIn LT hb1).here ?_))) (by intro q; cases q)
        cases b with
        | false => exact ih (hno rfl)
        | true =>
          refine codeAny_handlers_suite_as (HandSPX.lands_againZ fl3 fun h4 fl4 up4 => ?_)
          have J4 : Inv X pins σ' H' { s' with heap := h4 } := J.landed nb fl4.1 ((up.trans up3).trans up4) os ag
          obtain ⟨oe4, vs4, he4, hz4, hd4⟩ := fl4.there
          refine store_ok (X := X.suite a ((a, oe4) :: (X.pn ++ pins))) (v := .ref a) (J4.suite he4 hd4 na nL nF) hN hi (.inl hln) rfl (fun s5 S5 => ?_) (.inr hln)
          have hil : i < σ'.length := by rw [J.len]; exact (List.getElem?_eq_some_iff.mp hi).1
          exact wpAny_mono ((hsu a oe4 cls d (X.pn ++ pins) hz4 ⟨_, hd4⟩).run [] s5 _ H' _ S5 (hyes rfl a na hil)) (fun f s6 hsp => sp_gone hN hi hln (sp_unsuite ok hsp)) (fun _ _ z => False.elim z)
    exact go hh w
  · cases fl with
    | next =>
      obtain ⟨t, h1, J', q⟩ := hsp
      exact wpAny_execs_nil ⟨t, h1, J'.ofTry ok, q⟩
    | brk =>
      obtain ⟨t, h1, J', q⟩ := hsp
      exact ⟨t, h1, J'.ofTry ok, q⟩
    | cont =>
      obtain ⟨t, h1, J', q⟩ := hsp
      exact ⟨t, h1, J'.ofTry ok, q⟩
    | ret u =>
      obtain ⟨v, t, h1, J', r, q⟩ := hsp
      exact ⟨v, t, h1, J'.ofTry ok, r, q⟩
end
end L2

set_option Elab.async false
set_option linter.all false
set_option maxRecDepth 100000
set_option maxHeartbeats 4000000
/-! SaidKit: what a lambda handed over tells, or which of two errors it raises, as a pair. -/
namespace L2
open PySem PySem.Spec PyProof.Rows EK LamX
/-- an error of cls with its dict d: of the class at C, its one value told as (m, value) -/
def errTold (C : Addr) (f m : Str) (Q : VK) : XK := fun cls d H => cls = .ref C ∧ ∃ (dd : Addr) (v : V), d = some dd ∧ H dd = some (.xd [(f, v)]) ∧ ∀ p, H p = none → Q (.ref p) (upd H p (.tup [.str m, v]))
def wSaid (K : PySem.W.Frag) (C1 C2 : Addr) (f1 f2 m1 m2 : Str) (Q : VK) : XK := fun cls d H => ∃ b1, PySem.W.exmOne K cls (.ref C1) = some b1 ∧ (b1 = true → errTold C1 f1 m1 Q cls d H) ∧
  (b1 = false → ∃ b2, PySem.W.exmOne K cls (.ref C2) = some b2 ∧ (b2 = true → errTold C2 f2 m2 Q cls d H) ∧ (b2 = false → False))
def TSaid (K : PySem.W.Frag) (C1 C2 : Addr) (f1 f2 m1 m2 : Str) : (XK → Hp → VK → Prop) → Hp → VK → Prop := fun tl H Q =>
  tl (wSaid K C1 C2 f1 f2 m1 m2 Q) H fun v H1 => [V.str "told", v].length ≤ sizeLine ∧ ∀ p, H1 p = none → Q (.ref p) (upd H1 p (.tup [.str "told", v]))
theorem said_gives {X : Cx} {Ng : List Str} {x a e1 e2 n1 n2 q f1 f2 m1 m2 : Str} {sg : Scope} {g C1 C2 : Addr} {cdg : Value} {j0 j1 j2 : Nat} {p1 p2 p3 p4 p5 p6 p7 p8 a1 a2 a3 a4 a5 a6 a7 b1 b2 b3 b4 b5 b6 b7 c1 c2 : Pos} {k0 k1 k2 : Nat} {mz : Value}
    (hN : Ng.Nodup) (hn1 : Ng[1]? = some n1) (hl1 : sg.names.lookup n1 = some .local) (hn2 : Ng[1]? = some n2)
    (ge1 : sg.names.lookup e1 = some .globalImplicit) (hm1 : X.mg e1 = some (.ref C1)) (de1 : (e1 == ("__debug__" : Str)) = false)
    (ge2 : sg.names.lookup e2 = some .globalImplicit) (hm2 : X.mg e2 = some (.ref C2)) (de2 : (e2 == ("__debug__" : Str)) = false)
    (T1 : XfC X.K C1) (T2 : XfC X.K C2) (no1 : PySem.W.findIn X.K (.ref C1) f1 = some none) (no2 : PySem.W.findIn X.K (.ref C2) f2 = some none) (dn : (n1 == ("__debug__" : Str)) = false) (cn : (n1 == ("__classdict__" : Str)) = false) (sk : sg.kind = .function)
    (h0 : ∀ f : Addr, (L2.start Ng [V.ref f])[0]? = some (some (V.ref f))) (hz1 : ∀ f : Addr, (L2.start Ng [V.ref f])[1]? = some none) :
    GivesTo X Ng x sg g cdg [.Try [.Return (some (.Tuple [.Constant (.str "told") j0 p1, .Call (.Name a p2) [] [] p3] k0 p4)) p5]
      [.ExceptHandler (some (.Name e1 a1)) (some n1) [.Return (some (.Tuple [.Constant (.str m1) j1 a2, .Attribute (.Name n1 a3) f1 a4] k1 a5)) a6] a7,
       .ExceptHandler (some (.Name e2 b1)) (some n2) [.Return (some (.Tuple [.Constant (.str m2) j2 b2, .Attribute (.Name n2 b3) f2 b4] k2 b5)) b6] b7] [] [] p8] a q (TSaid X.K C1 C2 f1 f2 m1 m2) := by
  obtain rfl : n1 = n2 := Option.some.inj (hn1.symm.trans hn2)
  intro f c' s H Q tl act hc h
  have hlen : 1 < (L2.start Ng [V.ref f]).length := by
    have z := hz1 f
    exact (List.getElem?_eq_some_iff.mp z).1
  have gl1 : Gl (cxOf C8.CX0 X.prog X.w X.K X.mg X.base Ng x sg g cdg X.A X.stack s H C8.E0).nox e1 := ge1
  have gl2 : Gl (cxOf C8.CX0 X.prog X.w X.K X.mg X.base Ng x sg g cdg X.A X.stack s H C8.E0).nox e2 := ge2
  refine ⟨_, pss_one (ps_tryC (X := (cxOf C8.CX0 X.prog X.w X.K X.mg X.base Ng x sg g cdg X.A X.stack s H C8.E0).nox)
      (tb := fun W D σ H => ∃ Ech : XK, (∀ cls d σ' H', Ech cls d H' → W cls d σ' H') ∧ σ[0]? = some (some (.ref f)) ∧ H c' = some (CodeO c' q) ∧ tl Ech H (fun v H1 => [V.str "told", v].length ≤ sizeLine ∧ ∀ p, H1 p = none → D.rt (.ref p) (upd H1 p (.tup [.str "told", v]))))
      (l := [⟨.ref C1, some 1, fun a cls d => tRet (tTup (tCons (tC (.str m1)) (tCons (tXf a cls d C1 f1 (tVar 1)) tNil)))⟩, ⟨.ref C2, some 1, fun a cls d => tRet (tTup (tCons (tC (.str m2)) (tCons (tXf a cls d C2 f2 (tVar 1)) tNil)))⟩])
      rfl rfl hN takes0 (fun W pn xe tk _ => ?_)
      (ClOk.as hn1 (by show Env.kindOf _ n1 = some NameKind.local; exact hl1) ⟨gl1, de1, .inl hm1⟩ (fun a oe cls d pn hz hf => pss_one (ps_ret (pe_tup (pa_cons pe_str (pa_cons (pe_xf T1 no1 hz hf (pe_var (i := 1) hn1 (Or.inl hl1) dn cn)) pa_nil)))))
        (ClOk.as hn1 (by show Env.kindOf _ n1 = some NameKind.local; exact hl1) ⟨gl2, de2, .inl hm2⟩ (fun a oe cls d pn hz hf => pss_one (ps_ret (pe_tup (pa_cons pe_str (pa_cons (pe_xf T2 no2 hz hf (pe_var (i := 1) hn1 (Or.inl hl1) dn cn)) pa_nil))))) .nil))), ?_⟩
  · refine ⟨fun pins s' σ H' D I h' => ?_⟩
    obtain ⟨Ech, hW, h1, h2, h3⟩ := h'
    have hp := act W pn xe Ech p2 p3 tk hW
    have hq : PSs ((cxOf C8.CX0 X.prog X.w X.K X.mg X.base Ng x sg g cdg X.A X.stack s H C8.E0).tr pn xe) [.Return (some (.Tuple [.Constant (.str "told") j0 p1, .Call (.Name a p2) [] [] p3] k0 p4)) p5] _ := pss_one (ps_ret (pe_tup (pa_cons pe_str (pa_cons hp pa_nil))))
    exact hq.run pins s' σ H' D I ⟨h1, h2, h3⟩
  · have hset : ∀ (σ : L2.St) (y : V), 1 < σ.length → (σ.set 1 (some y))[1]? = some (some y) := fun σ y h => by rw [List.getElem?_set_self h]
    have two : ∀ x y : V, [x, y].length ≤ sizeLine := fun x y => by show 2 ≤ sizeLine; decide
    refine ⟨wSaid X.K C1 C2 f1 f2 m1 m2 Q, fun cls d σ' H' ⟨b1, e1, y1, z1⟩ => ⟨b1, e1, fun hb a ha hl => ?_, fun hb => ?_⟩, h0 f, hc, h⟩
    · obtain ⟨ec, dd, v, ed, hd, q⟩ := y1 hb
      exact ⟨_, hset _ _ hl, rfl, ec, dd, _, v, ed, hd, look1 _ _, two _ _, q⟩
    · obtain ⟨b2, e2, y2, z2⟩ := z1 hb
      refine ⟨b2, e2, fun hb2 a ha hl => ?_, fun hb2 => z2 hb2⟩
      obtain ⟨ec, dd, v, ed, hd, q⟩ := y2 hb2
      exact ⟨_, hset _ _ hl, rfl, ec, dd, _, v, ed, hd, look1 _ _, two _ _, q⟩
end L2

set_option Elab.async false
set_option linter.all false
set_option maxRecDepth 100000
set_option maxHeartbeats 4000000
/-! DataKit: sorted, min of data at any depth and length, as rules of the layer. -/
namespace L2
open PySem PySem.Spec PyProof.Rows
section
variable {X : Cx} {pins : List (Addr × Obj)} {σ : St} {H : Hp} {s : Shared}
theorem each_vals (I : Inv X pins σ H s) : ∀ {bs : List (V × PyData)} {us : List Value}, Vals (bs.map (·.1)) us → (∀ b ∈ bs, Dp X.K H b.1 b.2) → PySem.W.EachIs (fun v b => RelV b.1 v) us bs ∧ PySem.W.EachIs (fun v b => ∃ as, Reads s.heap v b.2 as) us bs
  | [], _, r, _ => by
    cases r
    exact ⟨.nil, .nil⟩
  | b :: bs, _, r, h => by
    cases r with
    | cons r1 r2 =>
      obtain ⟨e1, e2⟩ := each_vals I r2 fun c hc => h c (List.mem_cons_of_mem _ hc)
      exact ⟨.cons r1 e1, .cons (Dp.reads I _ _ _ (h b List.mem_cons_self) r1) e2⟩
theorem vals_each : ∀ {us : List Value} {bs : List (V × PyData)}, PySem.W.EachIs (fun v b => RelV b.1 v) us bs → Vals (bs.map (·.1)) us
  | _, _, .nil => .nil
  | _, _, .cons r t => .cons r (vals_each t)
/-- sorted(xs) of data that are alike -/
def rSortedD (K : PySem.W.Frag) : List V → Hp → VK → Prop := fun vs H Q => ∃ (a : Addr) (bs : List (V × PyData)), vs = [V.ref a] ∧ SqL K H a (bs.map (·.1)) ∧ (∀ b ∈ bs, Dp K H b.1 b.2) ∧ PySem.W.AllAlike (bs.map (·.2)) ∧ PySem.W.Sortable (bs.map (·.2)) ∧ (∀ b ∈ bs, b.2.depth ≤ 50) ∧
  ∀ p, H p = none → Q (.ref p) (upd H p (.lst ((bs.mergeSort (PySem.W.dataLe false (·.2))).map (·.1))))
theorem cr_sortedD (hu : X.A.units + 64 < cLine) : CallR X (.builtin "sorted") (rSortedD X.K) := by
  intro pins s σ H vs us Q I r h
  obtain ⟨a, bs, rfl, hs, hd, hal, hk, hdep, q⟩ := h
  obtain ⟨its, rv, hl, hz⟩ := I.list hs
  obtain ⟨u, rfl, ru⟩ := vals1 r
  obtain rfl : u = Value.ref a := ru
  obtain ⟨e1, e2⟩ := each_vals I rv hd
  rw [List.length_map] at hz
  refine PySem.W.sorted_data (enc := fun b : V × PyData => b.2) hl.isList e1 e2 hal hk hz (fun b hb => by have := hdep b hb; omega) fun out hlen ho => ?_
  obtain ⟨n, hn⟩ := sortedAll_at s.heap its out.toArray
  have rv2 := vals_each ho
  exact ⟨.ref (s.heap.objs.size + 1), _, I.laid (t' := s.toks) (a := s.heap.objs.size + 1) (o := .lst ((bs.mergeSort (PySem.W.dataLe false (·.2))).map (·.1))) (fun b o e => sortedAll_old e) (Nat.le_succ _) ⟨by rw [rv2.length, hlen]; exact hz, out, n, rv2, hn⟩, rfl, q _ (I.hok.fresh (Nat.le_succ _))⟩
/-- min(xs) of texts, one at least -/
def minS (x : Str) (xs : List Str) : Str := xs.foldl (fun a y => if decide (y.cps.toList < a.cps.toList) = true then y else a) x
theorem minD_strs (x : Str) : ∀ xs : List Str, PySem.W.minD (.str x) (xs.map PyData.str) = .str (minS x xs) := by
  intro xs
  induction xs generalizing x with
  | nil => rfl
  | cons y ys ih =>
    show PySem.W.minD (if PySem.W.dataLt (.str y) (.str x) = true then .str y else .str x) (ys.map PyData.str) = .str (minS (if decide (y.cps.toList < x.cps.toList) = true then y else x) ys)
    rw [PySem.W.dataLt_str]
    split
    · exact ih y
    · exact ih x
theorem reads_strs {h : Heap} : ∀ {xs : List Str} {us : List Value}, Vals (xs.map V.str) us → ∃ as, ReadsAll h us (xs.map PyData.str) as
  | [], _, r => by
    cases r
    exact ⟨_, .nil⟩
  | x :: xs, _, r => by
    cases r with
    | cons r1 r2 =>
      obtain ⟨t, rfl⟩ := r1
      obtain ⟨as, z⟩ := reads_strs (h := h) r2
      exact ⟨_, .cons (.str x t) z⟩
theorem depth_strs : ∀ xs : List Str, PyData.depthAll (xs.map PyData.str) ≤ 1
  | [] => by simp [PyData.depthAll]
  | x :: xs => by
    have := depth_strs xs
    simp only [List.map_cons, PyData.depthAll, PyData.depth]
    omega
def rMinS (K : PySem.W.Frag) : List V → Hp → VK → Prop := fun vs H Q => ∃ (a : Addr) (x : Str) (xs : List Str), vs = [V.ref a] ∧ SqL K H a ((x :: xs).map V.str) ∧ Q (.str (minS x xs)) H
theorem cr_minS (hc : X.calm = true) (hu : X.A.units + 64 < cLine) : CallR X (.builtin "min") (rMinS X.K) := by
  intro pins s σ H vs us Q I r h
  obtain ⟨a, x, xs, rfl, hs, q⟩ := h
  obtain ⟨its, rv, hl, hz⟩ := I.list hs
  obtain ⟨u, rfl, ru⟩ := vals1 r
  obtain rfl : u = Value.ref a := ru
  obtain ⟨as, hr⟩ := reads_strs (h := s.heap) rv
  have hdep := depth_strs (x :: xs)
  refine PySem.W.min_list_data (x := .str x) (xs := xs.map PyData.str) (I.ok.hd hc) hl.isList (by simpa using hr) ⟨fun y hy z hz => ?_, fun y hy => ?_⟩ (by have : PyData.depthAll (PyData.str x :: xs.map PyData.str) ≤ 1 := hdep; omega) fun i v h' tk bs hv hrd hk => ?_
  · obtain ⟨y', _, rfl⟩ := List.mem_map.mp (show y ∈ (x :: xs).map PyData.str from hy)
    obtain ⟨z', _, rfl⟩ := List.mem_map.mp (show z ∈ (x :: xs).map PyData.str from hz)
    simp [PySem.W.alike]
  · obtain ⟨y', _, rfl⟩ := List.mem_map.mp (show y ∈ (x :: xs).map PyData.str from hy)
    exact fun z => nomatch z
  · rw [minD_strs] at hrd
    cases hrd with
    | str _ t => exact ⟨.str (minS x xs), H, I.kept (t' := tk) hk, ⟨t, rfl⟩, q⟩
end
end L2

set_option Elab.async false
set_option linter.all false
set_option maxRecDepth 100000
set_option maxHeartbeats 4000000
/-! StrL: texts by the lists of their codes. -/
namespace L2
open PySem PySem.Spec PyProof.Rows
def strL (l : List Nat) : Str := ⟨l.toArray⟩
def strV (l : List Nat) : V := .str (strL l)
theorem strL_list (l : List Nat) : (strL l).cps.toList = l := by simp [strL]
theorem strL_size (l : List Nat) : (strL l).cps.size = l.length := by simp [strL]
theorem strL_len (l : List Nat) : (strL l).length = l.length := by show l.toArray.size = _; simp
theorem strL_of (z : Str) : z = strL z.cps.toList := by
  cases z
  simp [strL]
theorem strL_add (a b : List Nat) : strL a ++ strL b = strL (a ++ b) := by
  show (⟨a.toArray ++ b.toArray⟩ : Str) = ⟨(a ++ b).toArray⟩
  simp
theorem strL_inj {a b : List Nat} : strL a = strL b ↔ a = b := by
  constructor
  · intro h
    have := congrArg (fun z : Str => z.cps.toList) h
    simpa [strL] using this
  · rintro rfl
    rfl
theorem strV_inj {a b : List Nat} : V.str (strL a) = V.str (strL b) ↔ a = b := by
  constructor
  · intro h
    injection h with h
    exact strL_inj.mp h
  · rintro rfl
    rfl
theorem strL_dec (a b : List Nat) : decide (V.str (strL a) = V.str (strL b)) = decide (a = b) := by
  by_cases h : a = b
  · rw [decide_eq_true h, decide_eq_true (strV_inj.mpr h)]
  · rw [decide_eq_false h, decide_eq_false fun z => h (strV_inj.mp z)]
theorem cutN (l : List Nat) (a b : Nat) : cutS (strL l) (some (a : Int)) (some (b : Int)) = strL ((l.take b).drop a) := by
  rw [strL_of (cutS _ _ _)]
  congr 1
  show (((strL l).cps.toList.drop (HT.sIx (strL l).length 0 (some (a : Int)))).take (HT.sIx (strL l).length (strL l).length (some (b : Int)) - HT.sIx (strL l).length 0 (some (a : Int)))).toArray.toList = _
  rw [HT.sIx_nat, HT.sIx_nat, strL_list, strL_len]
  simp only [List.toList_toArray]
  rw [List.drop_take]
  by_cases h1 : a ≤ l.length
  · rw [Nat.min_eq_left h1]
    by_cases h2 : b ≤ l.length
    · rw [Nat.min_eq_left h2]
    · rw [Nat.min_eq_right (by omega), List.take_of_length_le (by rw [List.length_drop]; omega), List.take_of_length_le (by rw [List.length_drop]; omega)]
  · rw [List.drop_of_length_le (by omega : l.length ≤ min a l.length), List.drop_of_length_le (by omega : l.length ≤ a)]
    simp
theorem cutL (l : List Nat) (k : Nat) : cutS (strL l) (some (k : Int)) none = strL (l.drop k) := by
  rw [strL_of (cutS _ _ _)]
  congr 1
  show (((strL l).cps.toList.drop (HT.sIx (strL l).length 0 (some (k : Int)))).take (HT.sIx (strL l).length (strL l).length none - HT.sIx (strL l).length 0 (some (k : Int)))).toArray.toList = _
  rw [HT.sIx_none, HT.sIx_nat, strL_list, strL_len]
  simp only [List.toList_toArray]
  rw [List.take_of_length_le (by rw [List.length_drop]; omega), Nat.min_def]
  split
  · rfl
  · rw [List.drop_of_length_le (Nat.le_refl _), List.drop_of_length_le (by omega)]
theorem takeL (l : List Nat) (k : Nat) : cutS (strL l) none (some (k : Int)) = strL (l.take k) := by
  rw [strL_of (cutS _ _ _)]
  congr 1
  show (((strL l).cps.toList.drop (HT.sIx (strL l).length 0 none)).take (HT.sIx (strL l).length (strL l).length (some (k : Int)) - HT.sIx (strL l).length 0 none)).toArray.toList = _
  rw [HT.sIx_none, HT.sIx_nat, strL_list, strL_len]
  simp only [List.toList_toArray, List.drop_zero, Nat.sub_zero]
  rw [Nat.min_def]
  split
  · rfl
  · rw [List.take_of_length_le (Nat.le_refl _), List.take_of_length_le (by omega)]
theorem repL (l : List Nat) (k : Nat) : repS (strL l) k = strL (List.replicate k l).flatten := by
  show (⟨(List.replicate k (strL l).cps.toList).flatten.toArray⟩ : Str) = _
  rw [strL_list]
  rfl
theorem joinL_nil0 : ∀ ys : List (List Nat), TL.joinL [] ys = ys.flatten
  | [] => rfl
  | [p] => by rw [List.flatten_cons, List.flatten_nil, List.append_nil]; rfl
  | p :: q :: r => (show p ++ TL.joinL [] (q :: r) = _ from by rw [joinL_nil0 (q :: r)]; rfl)
theorem joinV (ws : List (List Nat)) : Txt.join "" (ws.map strL) = strL ws.flatten := by
  have e : ws.map strL = ws.map SX.S := List.map_congr_left fun w _ => by
    have := SX.S_tl (strL w)
    rw [strL_list] at this
    exact this.symm
  rw [e, show ("" : Str) = SX.S [] from rfl, SX.join_S, joinL_nil0, strL_of (SX.S _)]
theorem sum_lenV (ws : List (List Nat)) : ((ws.map strL).map (·.length)).sum = ws.flatten.length := by
  rw [List.length_flatten, List.map_map]
  exact congrArg List.sum (List.map_congr_left fun w _ => strL_len w)
theorem ones_flat : ∀ l : List Nat, (l.map fun c => [c]).flatten = l
  | [] => rfl
  | c :: l => by rw [List.map_cons, List.flatten_cons, ones_flat l]; rfl
theorem mapV (ws : List (List Nat)) : (ws.map strL).map V.str = ws.map strV := by
  rw [List.map_map]
  rfl
theorem cut_tail1 (xs : List V) : cutV xs (some 1) none = xs.drop 1 := by
  unfold cutV
  rw [HT.sIx_none, show (some (1 : Int)) = some ((1 : Nat) : Int) from rfl, HT.sIx_nat]
  by_cases h : xs.length ≤ 1
  · rw [Nat.min_eq_right h, List.drop_length, List.drop_of_length_le h, List.take_nil]
  · rw [Nat.min_eq_left (by omega), List.take_of_length_le (by rw [List.length_drop]; omega)]
end L2

set_option Elab.async false
set_option linter.all false
set_option maxRecDepth 100000
set_option maxHeartbeats 4000000
/-! FindKit: parts of texts: `in`, `find`. -/
namespace L2
open PySem PySem.Spec PyProof.Rows PySem.StrLaws PySem.Builtin.Str
/-- w stands in t at i -/
def Stand (t w : List Nat) (i : Nat) : Prop := i + w.length ≤ t.length ∧ (t.drop i).take w.length = w
def Part (t w : List Nat) : Prop := ∃ i, Stand t w i
def First (t w : List Nat) (i : Nat) : Prop := Stand t w i ∧ ∀ k, k < i → ¬ Stand t w k
instance (t w : List Nat) (i : Nat) : Decidable (Stand t w i) := by unfold Stand; exact inferInstance
theorem at_stand (t w : List Nat) (i : Nat) : At (strL t) (strL w) (strL t).length i ↔ Stand t w i := by
  unfold At Stand
  rw [subAt_eq, strL_list, strL_list, strL_len, strL_len]
  constructor
  · rintro ⟨h1, h2⟩
    exact ⟨h1, eq_of_beq h2⟩
  · rintro ⟨h1, h2⟩
    exact ⟨h1, by rw [h2]; exact beq_self_eq_true w⟩
theorem in_part (t w : List Nat) : (!(occurrences (strL t) (strL w) 0 (strL t).length 1).isEmpty) = true ↔ Part t w := by
  rcases occ_head (strL t) (strL w) 1 (Nat.le_refl _) with ⟨e, h⟩ | ⟨i, r, e, h, _⟩
  · rw [e]
    constructor
    · intro z; cases z
    · rintro ⟨i, hi⟩
      exact absurd ((at_stand t w i).mpr hi) (h i)
  · rw [e]
    exact ⟨fun _ => ⟨i, (at_stand t w i).mp h⟩, fun _ => rfl⟩
theorem find_first {t w : List Nat} (h : Part t w) : ∃ i : Nat, Txt.find (strL t) (strL w) = (i : Int) ∧ First t w i := by
  unfold Txt.find
  rcases occ_head (strL t) (strL w) 1 (Nat.le_refl _) with ⟨e, hn⟩ | ⟨i, r, e, h1, h2⟩
  · obtain ⟨i, hi⟩ := h
    exact absurd ((at_stand t w i).mpr hi) (hn i)
  · rw [e]
    exact ⟨i, rfl, (at_stand t w i).mp h1, fun k hk z => h2 k hk ((at_stand t w k).mpr z)⟩
theorem First.one {t w : List Nat} {i j : Nat} (h : First t w i) (g : First t w j) : i = j := by
  rcases Nat.lt_trichotomy i j with z | z | z
  · exact absurd h.1 (g.2 i z)
  · exact z
  · exact absurd g.1 (h.2 j z)
theorem Stand.take {t w : List Nat} {i : Nat} (h : Stand t w i) (k : Nat) : Stand t (w.take k) i := by
  obtain ⟨h1, h2⟩ := h
  refine ⟨by rw [List.length_take]; omega, ?_⟩
  rw [List.length_take, ← List.take_take, h2]
theorem Part.take {t w : List Nat} (h : Part t w) (k : Nat) : Part t (w.take k) := by
  obtain ⟨i, h⟩ := h
  exact ⟨i, h.take k⟩
theorem Stand.tail {t w : List Nat} {i : Nat} (h : Stand t w i) (hw : 0 < w.length) : Stand t (w.drop 1) (i + 1) := by
  obtain ⟨h1, h2⟩ := h
  refine ⟨by rw [List.length_drop]; omega, ?_⟩
  have e : (t.drop (i + 1)).take (w.drop 1).length = ((t.drop i).take w.length).drop 1 := by
    rw [List.drop_take, List.drop_drop, List.length_drop]
  rw [e, h2]
theorem Part.tail {t w : List Nat} (h : Part t w) : Part t (w.drop 1) := by
  cases w with
  | nil => exact h
  | cons c w =>
    obtain ⟨i, h⟩ := h
    exact ⟨i + 1, h.tail (Nat.succ_pos _)⟩
theorem part_nil (t : List Nat) : First t [] 0 := ⟨⟨Nat.zero_le _, rfl⟩, fun k hk => absurd hk (Nat.not_lt_zero _)⟩
/-- the length of the common beginning -/
def cp : List Nat → List Nat → Nat
  | c :: a, d :: b => if c = d then cp a b + 1 else 0
  | _, _ => 0
theorem cp_le1 : ∀ a b : List Nat, cp a b ≤ a.length
  | [], _ => by cases ‹List Nat› <;> exact Nat.le_refl _
  | c :: a, [] => Nat.zero_le _
  | c :: a, d :: b => by
    unfold cp
    have := cp_le1 a b
    split
    · rw [List.length_cons]; omega
    · exact Nat.zero_le _
theorem cp_le2 : ∀ a b : List Nat, cp a b ≤ b.length
  | [], _ => by cases ‹List Nat› <;> exact Nat.zero_le _
  | c :: a, [] => Nat.le_refl _
  | c :: a, d :: b => by
    unfold cp
    have := cp_le2 a b
    split
    · rw [List.length_cons]; omega
    · exact Nat.zero_le _
theorem cp_take : ∀ (a b : List Nat) (m : Nat), m ≤ a.length → m ≤ b.length → (a.take m = b.take m ↔ m ≤ cp a b)
  | _, _, 0, _, _ => ⟨fun _ => Nat.zero_le _, fun _ => by rw [List.take_zero, List.take_zero]⟩
  | [], _, m + 1, h, _ => by cases h
  | _ :: _, [], m + 1, _, h => by cases h
  | c :: a, d :: b, m + 1, h1, h2 => by
    rw [List.take_succ_cons, List.take_succ_cons]
    have ih := cp_take a b m (by rw [List.length_cons] at h1; omega) (by rw [List.length_cons] at h2; omega)
    unfold cp
    by_cases e : c = d
    · rw [if_pos e, e]
      constructor
      · intro z
        injection z with _ z
        have := ih.mp z
        omega
      · intro z
        rw [ih.mpr (by omega)]
    · rw [if_neg e]
      constructor
      · intro z
        injection z with z
        exact absurd z e
      · intro z; omega
theorem stand_cp {t v : List Nat} {m k : Nat} (hm : m ≤ v.length) : Stand t (v.take m) k ↔ k ≤ t.length ∧ m ≤ cp v (t.drop k) := by
  unfold Stand
  rw [List.length_take, Nat.min_eq_left hm]
  constructor
  · rintro ⟨h1, h2⟩
    exact ⟨by omega, (cp_take _ _ _ hm (by rw [List.length_drop]; omega)).mp h2.symm⟩
  · rintro ⟨h1, h2⟩
    have := cp_le2 v (t.drop k)
    rw [List.length_drop] at this
    by_cases hz : m = 0
    · subst hz
      exact ⟨by omega, by rw [List.take_zero, List.take_zero]⟩
    · exact ⟨by omega, ((cp_take _ _ _ hm (by rw [List.length_drop]; omega)).mpr h2).symm⟩
end L2

set_option Elab.async false
set_option linter.all false
set_option maxRecDepth 100000
set_option maxHeartbeats 4000000
/-! StatMath: the longest part of a text at each place of another, and where it stands first. -/
namespace L2
def IsLng (t v : List Nat) (l : Nat) : Prop := l ≤ v.length ∧ Part t (v.take l) ∧ ∀ m, m ≤ v.length → Part t (v.take m) → m ≤ l
structure StatAt (t v : List Nat) (z : Nat × Nat) : Prop where
  lng : IsLng t v z.1
  fst : First t (v.take z.1) z.2
def StatL (t u : List Nat) (zs : List (Nat × Nat)) : Prop := zs.length = u.length ∧ ∀ p z, zs[p]? = some z → StatAt t (u.drop p) z
theorem IsLng.one {t v : List Nat} {l m : Nat} (h : IsLng t v l) (g : IsLng t v m) : l = m := Nat.le_antisymm (g.2.2 l h.1 h.2.1) (h.2.2 m g.1 g.2.1)
theorem StatAt.one {t v : List Nat} {y z : Nat × Nat} (h : StatAt t v y) (g : StatAt t v z) : y = z := by
  have e := h.lng.one g.lng
  have hf := h.fst
  rw [e] at hf
  exact Prod.ext e (hf.one g.fst)
theorem StatL.one {t u : List Nat} {ys zs : List (Nat × Nat)} (h : StatL t u ys) (g : StatL t u zs) : ys = zs := by
  refine List.ext_getElem? fun i => ?_
  by_cases hi : i < u.length
  · obtain ⟨y, e1⟩ : ∃ y, ys[i]? = some y := ⟨_, List.getElem?_eq_getElem (by rw [h.1]; exact hi)⟩
    obtain ⟨z, e2⟩ : ∃ z, zs[i]? = some z := ⟨_, List.getElem?_eq_getElem (by rw [g.1]; exact hi)⟩
    rw [e1, e2, (h.2 i _ e1).one (g.2 i _ e2)]
  · rw [List.getElem?_eq_none (by rw [h.1]; omega), List.getElem?_eq_none (by rw [g.1]; omega)]
theorem statL_nil (t u : List Nat) : (∀ p z, ([] : List (Nat × Nat))[p]? = some z → StatAt t (u.drop p) z) := fun p z h => by simp at h
theorem stat_snoc {t u : List Nat} {zs : List (Nat × Nat)} {z : Nat × Nat} (h : ∀ p z, zs[p]? = some z → StatAt t (u.drop p) z) (g : StatAt t (u.drop zs.length) z) : ∀ p y, (zs ++ [z])[p]? = some y → StatAt t (u.drop p) y := fun p y e => by
  by_cases hp : p < zs.length
  · rw [List.getElem?_append_left hp] at e
    exact h p y e
  · rw [List.getElem?_append_right (by omega)] at e
    by_cases h0 : p - zs.length = 0
    · rw [h0] at e
      cases e
      rw [show p = zs.length by omega]
      exact g
    · rw [List.getElem?_eq_none (by show 1 ≤ _; omega)] at e
      cases e
/-- part of it that can't be made longer is the longest -/
theorem lng_of {t v : List Nat} {l : Nat} (h1 : l ≤ v.length) (h2 : Part t (v.take l)) (h3 : l = v.length ∨ ¬ Part t (v.take (l + 1))) : IsLng t v l := by
  refine ⟨h1, h2, fun m hm p => ?_⟩
  rcases h3 with e | n
  · omega
  · by_cases h : m ≤ l
    · exact h
    · refine absurd ?_ n
      have := p.take (l + 1)
      rw [List.take_take, Nat.min_eq_left (by omega)] at this
      exact this
theorem part_next {t u : List Nat} {p l : Nat} (h : Part t ((u.drop p).take l)) : Part t ((u.drop (p + 1)).take (l - 1)) := by
  have := h.tail
  rw [List.drop_take, List.drop_drop] at this
  exact this
theorem lng_next {t u : List Nat} {p l m : Nat} (h : IsLng t (u.drop p) l) (g : IsLng t (u.drop (p + 1)) m) : l ≤ m + 1 := by
  have h1 := h.1
  rw [List.length_drop] at h1
  have := g.2.2 (l - 1) (by rw [List.length_drop]; omega) (part_next h.2.1)
  omega
/-- by going through all places -/
def Best (t v : List Nat) (k most wh : Nat) : Prop := (∀ j, j < k → cp v (t.drop j) ≤ most) ∧ ((most = 0 ∧ wh = 0) ∨ (0 < most ∧ wh < k ∧ cp v (t.drop wh) = most ∧ ∀ j, j < wh → cp v (t.drop j) < most))
theorem best_zero (t v : List Nat) : Best t v 0 0 0 := ⟨fun j h => absurd h (Nat.not_lt_zero j), .inl ⟨rfl, rfl⟩⟩
theorem best_yes {t v : List Nat} {k most wh : Nat} (h : Best t v k most wh) (g : most < cp v (t.drop k)) : Best t v (k + 1) (cp v (t.drop k)) k := by
  refine ⟨fun j hj => ?_, .inr ⟨by omega, by omega, rfl, fun j hj => by have := h.1 j hj; omega⟩⟩
  by_cases e : j = k
  · rw [e]; exact Nat.le_refl _
  · have := h.1 j (by omega); omega
theorem best_no {t v : List Nat} {k most wh : Nat} (h : Best t v k most wh) (g : cp v (t.drop k) ≤ most) : Best t v (k + 1) most wh := by
  refine ⟨fun j hj => ?_, ?_⟩
  · by_cases e : j = k
    · rw [e]; exact g
    · exact h.1 j (by omega)
  · rcases h.2 with z | ⟨z1, z2, z3, z4⟩
    · exact .inl z
    · exact .inr ⟨z1, by omega, z3, z4⟩
theorem cp_nil2 (v : List Nat) : cp v [] = 0 := by cases v <;> rfl
theorem best_stat {t v : List Nat} {most wh : Nat} (h : Best t v t.length most wh) : StatAt t v (most, wh) := by
  obtain ⟨h1, h2⟩ := h
  have up : ∀ m, m ≤ v.length → Part t (v.take m) → m ≤ most := fun m hm ⟨k, hk⟩ => by
    obtain ⟨k1, k2⟩ := (stand_cp hm).mp hk
    by_cases e : k < t.length
    · have := h1 k e; omega
    · rw [List.drop_of_length_le (by omega), cp_nil2] at k2
      omega
  rcases h2 with ⟨rfl, rfl⟩ | ⟨z1, z2, z3, z4⟩
  · exact ⟨⟨Nat.zero_le _, by rw [List.take_zero]; exact ⟨0, (part_nil t).1⟩, up⟩, by rw [List.take_zero]; exact part_nil t⟩
  · have hv : most ≤ v.length := by rw [← z3]; exact cp_le1 _ _
    have st : Stand t (v.take most) wh := (stand_cp hv).mpr ⟨by omega, by omega⟩
    exact ⟨⟨hv, ⟨wh, st⟩, up⟩, st, fun k hk z => by
      have := ((stand_cp hv).mp z).2
      have := z4 k hk
      omega⟩
/-- halving -/
theorem half_lng {t v : List Nat} {lo hi : Nat} (h1 : lo ≤ hi) (h2 : hi ≤ v.length) (h3 : Part t (v.take lo)) (h4 : ∀ m, m ≤ v.length → Part t (v.take m) → m ≤ hi) (h5 : hi - lo < 1) : IsLng t v lo := by
  have e : lo = hi := by omega
  subst e
  exact ⟨h2, h3, h4⟩
theorem lng_self (u : List Nat) (p : Nat) : IsLng u (u.drop p) (u.length - p) := by
  refine ⟨by rw [List.length_drop]; exact Nat.le_refl _, ?_, fun m hm _ => by rw [List.length_drop] at hm; exact hm⟩
  rw [List.take_of_length_le (by rw [List.length_drop]; exact Nat.le_refl _)]
  by_cases h : p ≤ u.length
  · exact ⟨p, by rw [List.length_drop]; omega, List.take_of_length_le (Nat.le_refl _)⟩
  · rw [List.drop_of_length_le (by omega)]
    exact ⟨0, (part_nil u).1⟩
theorem stat_rep (c a b p : Nat) (hp : p ≤ b) : StatAt (List.replicate a c) ((List.replicate b c).drop p) (min a (b - p), 0) := by
  rw [List.drop_replicate]
  have e : (List.replicate (b - p) c).take (min a (b - p)) = List.replicate (min a (b - p)) c := by
    rw [List.take_replicate, Nat.min_eq_left (Nat.min_le_right _ _)]
  have st : Stand (List.replicate a c) (List.replicate (min a (b - p)) c) 0 := by
    refine ⟨by rw [List.length_replicate, List.length_replicate]; omega, ?_⟩
    rw [List.drop_zero, List.length_replicate, List.take_replicate, Nat.min_eq_left (Nat.min_le_left _ _)]
  refine ⟨⟨by rw [List.length_replicate]; exact Nat.min_le_right _ _, ?_, fun m hm ⟨i, hi⟩ => ?_⟩, ?_⟩
  · show Part _ ((List.replicate (b - p) c).take (min a (b - p)))
    rw [e]
    exact ⟨0, st⟩
  · rw [List.length_replicate] at hm
    have := hi.1
    rw [List.length_take, List.length_replicate, List.length_replicate] at this
    show m ≤ min a (b - p)
    omega
  · show First _ ((List.replicate (b - p) c).take (min a (b - p))) 0
    rw [e]
    exact ⟨st, fun k hk => absurd hk (Nat.not_lt_zero _)⟩
end L2

set_option Elab.async false
set_option linter.all false
set_option maxRecDepth 100000
set_option maxHeartbeats 4000000
namespace T46
open PySem PySem.Spec PyProof.Rows L2 EK
def isT (z : Str) : Bool := z.cps.toList.all fun c => decide (c ∈ letS.cps.toList)
structure TxtI (K : PySem.W.Frag) (mg : Str → Option Value) : Prop where
  isinstance : mg "isinstance" = none
  str : mg "str" = none
  all : mg "all" = none
  letters : ∃ u, mg "LETTERS" = some u ∧ RelV (.str letS) u
def spTx : Sp := fun vs H Q _ => ∃ t : List Nat, vs = [.str (strL t)] ∧ t.length ≤ 310 ∧ isT (strL t) = true ∧ ∀ H', Same H H' → Q (.bl true) H'
def spCT : Sp := fun vs H Q _ => ∃ t : List Nat, vs = [.str (strL t)] ∧ t.length ≤ 310 ∧ isT (strL t) = true ∧ ∀ H', Same H H' → Q .non H'
theorem isT_of {t : List Nat} (h : ∀ c ∈ t, c ∈ letS.cps.toList) : isT (strL t) = true := by
  unfold isT
  rw [strL_list, List.all_eq_true]
  exact fun c hc => decide_eq_true (h c hc)
theorem isT_mem {t : List Nat} (h : isT (strL t) = true) : ∀ c ∈ t, c ∈ letS.cps.toList := fun c hc => by
  unfold isT at h
  rw [strL_list, List.all_eq_true] at h
  exact of_decide_eq_true (h c hc)
section
variable {P : Program} {w : World} {K : PySem.W.Frag} {mg : Str → Option Value} {base : Heap}
theorem scIT : FnScope ["value", "sign"] ["value"] (defScope sIsText) := ⟨rfl, rfl, rfl, by decide +kernel, rfl, by decide +kernel, by decide +kernel⟩
theorem scCT : FnScope ["text"] ["text"] (defScope sCkText) := ⟨rfl, rfl, rfl, by decide +kernel, rfl, by decide +kernel, by decide +kernel⟩
theorem ok_IT {f : Addr} {fd : FuncData} (F : Fun K "is_text" "is_text" sIsText f fd) (T : TxtI K mg) : FnOk P w K mg base CX0 1 f fd ["value"] spTx := by
  refine F.ok scIT (fun vs H Q E h => ?_) (fun cdv A outer s H vs Q E hr h => ?_)
  · obtain ⟨t, rfl, _⟩ := h
    rfl
  · obtain ⟨t, rfl, hl, hb, k⟩ := h
    have nd := scIT.nd
    refine ⟨_, (pss_one (ps_ret (pe_and (pe_callB call_isi (by rfl) T.isinstance (by decide +kernel) (pa_cons (pv 0) (pa_cons (pe_bltn (v := .ty "str") rfl T.str (by decide +kernel) rfl) pa_nil))) (pe_one (pe_callB (cr_all rfl) (by rfl) T.all (by decide +kernel) (pa_cons (pe_lc (own := [("sign", 1)]) (g := gName 1) (tt := tYes) rfl nd (pi_str (pv 0)) (blkOk_by (N := ["value", "sign"]) (sc := defScope sIsText) (by decide +kernel)) (fun _ _ _ _ _ => (pg_name (i := 1) nd rfl (Or.inl rfl))) (fun _ _ _ _ _ => pts_nil) (fun _ _ _ _ _ => (pe_cmpR op_in_sign (pv 1) (C8.pe_gc (by rfl) T.letters) (by rfl)))) pa_nil)))))), ?_⟩
    obtain ⟨ty, ht, hk⟩ : ∃ ty, TyX K H (.str (strL t)) ty ∧ PySem.W.kitOne K ty (.type "str") = some true := ⟨_, .base (.str _), kit_ty (r := true) (by decide +kernel)⟩
    refine ⟨_, rfl, _, _, _, _, _, rfl, .ty _, ht, hk, _, rfl, _, rfl, strL t, rfl, fun D hD => lc_it (walk_str (z := strL t)) (fun i H' => Same H H' ∧ H' D = some (.lst (((t.take i).map fun c => decide (c ∈ letS.cps.toList)).map V.bl))) ⟨fun b o e => by rw [upd_ne (ne_of_none e hD)]; exact e, upd_same⟩ (fun _ _ _ _ => trivial) ?_ ?_⟩
    · rintro i y H1 H2 hi ⟨s1, d1⟩ ⟨rfl, c, hc, rfl⟩
      have hc' : t[i]? = some c := by rw [← strL_list t, Array.getElem?_toList]; exact hc
      refine ⟨rfl, ?_⟩
      refine ⟨_, rfl, c, _, rfl, rfl, _, d1, ?_, fun b o e => ?_, ?_⟩
      · rw [List.length_map, List.length_map, List.length_take]
        exact Nat.lt_of_le_of_lt (Nat.min_le_right _ _) (Nat.lt_of_le_of_lt hl (by decide))
      · rw [upd_ne (ne_of_none e hD)]
        exact s1 _ _ e
      · rw [upd_same, List.take_succ, hc', List.map_append, List.map_append]
        rfl
    · rintro H1 ⟨s1, d1⟩
      rw [strL_size, List.take_length] at d1
      refine ⟨D, _, rfl, .of d1, ?_⟩
      have e : ((t.map fun c => decide (c ∈ letS.cps.toList)).all id) = true := by
        rw [List.all_map]
        unfold isT at hb
        rw [strL_list] at hb
        exact hb
      rw [e]
      exact k H1 s1
theorem ok_CT {f fIT : Addr} {fd fdIT : FuncData} (F : Fun K "check_text" "check_text" sCkText f fd)
    (GIT : FnOk P w K mg base CX0 1 fIT fdIT ["value"] spTx) (gIT : mg "is_text" = some (.ref fIT)) (kIT : PySem.W.keepIn K (.ref fIT) = true) (bIT : Binds K fdIT ["value"] []) : FnOk P w K mg base CX0 2 f fd ["text"] spCT := by
  refine F.ok scCT (fun vs H Q E h => ?_) (fun cdv A outer s H vs Q E hr h => ?_)
  · obtain ⟨t, rfl, _⟩ := h
    rfl
  · obtain ⟨t, rfl, hl, hb, k⟩ := h
    have nd := scCT.nd
    have hrIT : Room 1 _ := hr
    refine ⟨_, pss_one (ps_if (pt_not (pt_val (pe_call GIT hrIT rfl gIT kIT bIT .nil pass0 (pa_cons (pv 0) pa_nil)))) pss_never pss_nil), ?_⟩
    exact ⟨_, rfl, t, rfl, hl, hb, fun H1 s1 => ⟨_, rfl, k H1 s1⟩⟩
end

theorem yes_i {σ : L2.St} {H : Hp} {Q : Bool → Hp → Prop} (h : Q true H) : tYes σ H Q := h
def PairAt (H : Hp) (x : V) (z : Nat × Nat) : Prop := ∃ a, x = .ref a ∧ H a = some (.tup [.int (z.1 : Int), .int (z.2 : Int)])
theorem PairAt.keep {H H' : Hp} {x : V} {z : Nat × Nat} (h : PairAt H x z) (s : Same H H') : PairAt H' x z := by
  obtain ⟨a, e, h⟩ := h
  exact ⟨a, e, s _ _ h⟩
theorem PairAt.put {B : Addr} {H : Hp} {xs ys : List V} {x : V} {z : Nat × Nat} (h : PairAt H x z) (hB : H B = some (.lst xs)) : PairAt (upd H B (.lst ys)) x z := by
  obtain ⟨a, e, h⟩ := h
  exact ⟨a, e, by rw [upd_ne (fun z => by rw [z, hB] at h; cases h)]; exact h⟩
/-- what two texts may be -/
structure Two (t u : List Nat) : Prop where
  l1 : t.length ≤ 310
  l2 : u.length ≤ 310
  b1 : isT (strL t) = true
  b2 : isT (strL u) = true
def spTell : Sp := fun vs H Q _ => ∃ t u : List Nat, vs = [.str (strL t), .str (strL u)] ∧ Two t u ∧ ∀ q xs zs H', H q = none → Same H H' → H' q = some (.lst xs) → All2 (PairAt H') xs zs → StatL t u zs → Q (.ref q) H'
structure TxtS (K : PySem.W.Frag) (mg : Str → Option Value) : Prop where
  len : mg "len" = none
  range : mg "range" = none
  max : mg "max" = none
section
variable {P : Program} {w : World} {K : PySem.W.Frag} {mg : Str → Option Value} {base : Heap}
theorem scST : FnScope ["text", "other", "told", "length", "place"] ["text", "other"] (defScope pStatistics) := ⟨rfl, rfl, rfl, by decide +kernel, rfl, by decide +kernel, by decide +kernel⟩
theorem ok_ST {f fCT : Addr} {fd fdCT : FuncData} (F : Fun K "statistics" "statistics" pStatistics f fd) (T : TxtS K mg)
    (GCT : FnOk P w K mg base CX0 2 fCT fdCT ["text"] spCT) (gCT : mg "check_text" = some (.ref fCT)) (kCT : PySem.W.keepIn K (.ref fCT) = true) (bCT : Binds K fdCT ["text"] []) :
    FnOk P w K mg base CX0 3 f fd ["text", "other"] spTell := by
  refine F.ok scST (fun vs H Q E h => ?_) (fun cdv A outer s H vs Q E hr h => ?_)
  · obtain ⟨t, u, rfl, _⟩ := h
    rfl
  · obtain ⟨t, u, rfl, two, k⟩ := h
    have nd := scST.nd
    have hz : sizeLine = 2 ^ 24 := sizeLine_eq
    have hrCT : Room 2 _ := hr
    have l1 := two.l1
    have l2 := two.l2
    refine ⟨_, (pss_cons (ps_expr (pe_call GCT hrCT rfl gCT kCT bCT .nil pass0 (pa_cons (pv 0) pa_nil)))
      (pss_cons (ps_expr (pe_call GCT hrCT rfl gCT kCT bCT .nil pass0 (pa_cons (pv 1) pa_nil)))
      (pss_cons (ps_set (i := 2) nd rfl (Or.inl rfl) (pe_lst pa_nil))
      (pss_cons (ps_set (i := 3) nd rfl (Or.inl rfl) pe_int)
      (pss_cons (ps_for PassesOwn.never rfl (pi_range1 (by rfl) T.range (pa_cons (pe_callB call_len_str (by rfl) T.len (by decide +kernel) (pa_cons (pv 1) pa_nil)) pa_nil)) (pg_name (i := 4) nd rfl (Or.inl rfl)) (pss_cons (ps_while PassesOwn.never (PW.pt (pw_and (pt_cmpR op_lt (pe_op op_add (pv 4) (pv 3)) (pe_callB call_len_str (by rfl) T.len (by decide +kernel) (pa_cons (pv 1) pa_nil)) (nomark _)) (pw_and1 (pt_cmpR op_in_str (pe_slice sl_str (pv 1) (po_some (pv 4)) (po_some (pe_op op_add (pe_op op_add (pv 4) (pv 3)) pe_int))) (pv 0) (by rfl))))) (pss_one (ps_aug (i := 3) nd rfl (.inl rfl) pe_int ip_add)))
      (pss_cons (ps_expr (pe_bm PySem.F.plainAttrs_list PySem.F.slot_list_append PySem.F.type_list_append mt_append (pv 2) (pa_cons (pe_tup (pa_cons (pv 3) (pa_cons (pe_m1 PySem.F.slot_str_find PySem.F.type_str_find mt_find (pv 0) (pe_slice sl_str (pv 1) (po_some (pv 4)) (po_some (pe_op op_add (pv 4) (pv 3))))) pa_nil))) pa_nil)))
      (pss_one (ps_set (i := 3) nd rfl (Or.inl rfl) (pe_callB (call_max2 rfl) (by rfl) T.max (by decide +kernel) (pa_cons pe_int (pa_cons (pe_op op_sub (pv 3) pe_int) pa_nil))))))))
      (pss_one (ps_ret (pv 2)))))))), ?_⟩
    refine ⟨_, rfl, t, rfl, l1, two.b1, fun H1 s1 => ?_⟩
    refine ⟨_, rfl, u, rfl, l2, two.b2, fun H2 s2 => ?_⟩
    refine ⟨(by show 0 ≤ sizeLine; omega), fun B zB => ?_⟩
    obtain ⟨H3, e3, S3, A3⟩ := alloc (o := .lst []) zB
    rw [e3]
    have nB : H B = none := by
      cases e : H B with
      | none => rfl
      | some o => rw [s2 _ _ (s1 _ _ e)] at zB; cases zB
    have ul : (strL u).length = u.length := strL_len u
    refine ⟨_, rfl, strL u, rfl, (by rw [ul, hz]; omega), ?_⟩
    refine ⟨_, rfl, (by rw [ul]; omega), (by rw [ul]; omega), ?_⟩
    have hn : (((strL u).length : Nat) : Int).toNat = u.length := by rw [ul]; omega
    refine for_range (lo := 0) (n := (((strL u).length : Nat) : Int).toNat) (fun i σ H' => ∃ (l : Nat) (v4 : Option V) (xs : List V) (zs : List (Nat × Nat)), σ = [some (.str (strL t)), some (.str (strL u)), some (.ref B), some (.int (l : Int)), v4] ∧ Same H H' ∧ H' B = some (.lst xs) ∧ All2 (PairAt H') xs zs ∧ zs.length = i ∧ (∀ p z, zs[p]? = some z → StatAt t (u.drop p) z) ∧ l + i ≤ u.length ∧ Part t ((u.drop i).take l)) ⟨0, _, [], [], rfl, (s1.trans s2).trans S3, A3, .nil, rfl, statL_nil t u, by omega, by rw [List.take_zero]; exact ⟨0, (part_nil t).1⟩⟩ ?_ ?_
    · rintro i σ H4 hi ⟨l, v4, xs, zs, rfl, s4, hB, hall, hzl, hst, hl, hp⟩
      rw [hn] at hi
      rw [Int.zero_add]
      refine ⟨fun m σ H' => H' = H4 ∧ ∃ l' : Nat, σ = [some (.str (strL t)), some (.str (strL u)), some (.ref B), some (.int (l' : Int)), some (.int (i : Int))] ∧ m = u.length - l' ∧ l' + i ≤ u.length ∧ Part t ((u.drop i).take l'), ⟨_, rfl, l, rfl, rfl, hl, hp⟩, ?_⟩
      rintro m σ H5 ⟨rfl, l', rfl, rfl, hl', hp'⟩
      have ld : (u.drop i).length = u.length - i := List.length_drop
      have hin : ∀ m : Nat, (!(Builtin.Str.occurrences (strL t) (strL ((u.drop i).take m)) 0 (strL t).length 1).isEmpty) = true ↔ Part t ((u.drop i).take m) := fun m => in_part t _
      have cutE : ∀ m : Nat, cutS (strL u) (some (i : Int)) (some ((i + m : Nat) : Int)) = strL ((u.drop i).take m) := fun m => by
        rw [cutN, List.drop_take, Nat.add_sub_cancel_left]
      apply join2
      · intro rj
        refine ⟨_, rfl, _, rfl, _, _, rfl, rfl, _, rfl, strL u, rfl, (by rw [ul, hz]; omega), _, _, rfl, rfl, ?_⟩
        refine ⟨_, rfl, ?_⟩
        by_cases h1 : i + l' < u.length
        · refine iteY (decide_eq_true (by rw [ul]; omega)) ?_
          refine ⟨_, rfl, _, rfl, _, rfl, _, rfl, _, rfl, _, _, rfl, rfl, _, _, rfl, rfl, _, rfl, _, rfl, (by rw [ul, hz]; omega), ?_⟩
          refine ⟨_, rfl, _, _, rfl, rfl, _, rfl, ?_⟩
          have e1 : ((i : Int) + (l' : Int) + 1) = ((i + (l' + 1) : Nat) : Int) := by omega
          dsimp only
          rw [e1, cutE]
          by_cases h2 : Part t ((u.drop i).take (l' + 1))
          · refine iteY ((hin _).mpr h2) ?_
            refine ⟨fun σ' H'' => σ' = [some (.str (strL t)), some (.str (strL u)), some (.ref B), some (.int ((l' + 1 : Nat) : Int)), some (.int (i : Int))] ∧ H'' = H5, fun σ' H'' h => ⟨u.length - (l' + 1), by omega, h.2, l' + 1, h.1, rfl, by omega, h2⟩, ?_⟩
            exact ⟨_, rfl, _, _, rfl, rfl, rfl, rfl⟩
          · refine iteN (by
              cases e : (!(Builtin.Str.occurrences (strL t) (strL ((u.drop i).take (l' + 1))) 0 (strL t).length 1).isEmpty) with
              | false => rfl
              | true => exact absurd ((hin _).mp e) h2) ?_
            have lg : IsLng t (u.drop i) l' := lng_of (by omega) hp' (.inr h2)
            revert lg
            exact rj.h
        · refine iteN (decide_eq_false (by rw [ul]; omega)) ?_
          have lg : IsLng t (u.drop i) l' := lng_of (by omega) hp' (.inl (by omega))
          revert lg
          exact rj.h
      · intro lg
        obtain ⟨fi, ef, hf⟩ := find_first lg.2.1
        refine ⟨_, rfl, .inl ⟨rfl, _, .of hB⟩, ?_⟩
        refine ⟨_, rfl, _, rfl, ⟨_, rfl⟩, _, rfl, _, rfl, _, rfl, _, rfl, _, rfl, _, _, rfl, rfl, _, rfl, _, rfl, (by rw [ul, hz]; omega), _, _, rfl, rfl, (by show 2 ≤ sizeLine; decide), fun p zp => ?_⟩
        have e1 : ((i : Int) + (l' : Int)) = ((i + l' : Nat) : Int) := by omega
        dsimp only
        rw [e1, cutE, ef]
        obtain ⟨H6, e6, S6, A6⟩ := alloc (o := .tup [.int (l' : Int), .int (fi : Int)]) zp
        rw [e6]
        have hB6 := S6 _ _ hB
        have xl : xs.length < sizeLine := by rw [hall.length, hz]; omega
        refine ⟨B, _, _, rfl, rfl, hB6, xl, ?_⟩
        have sB : Same H (upd H6 B (.lst (xs ++ [.ref p]))) := fun b o e => by
          rw [upd_ne (ne_of_none e nB)]
          exact S6 _ _ (s4 _ _ e)
        have all6 : All2 (PairAt (upd H6 B (.lst (xs ++ [.ref p])))) (xs ++ [.ref p]) (zs ++ [(l', fi)]) := All2.append (hall.mono fun _ _ _ r => (r.keep S6).put hB6) (.cons (PairAt.put (z := (l', fi)) ⟨p, rfl, A6⟩ hB6) .nil)
        have st6 := stat_snoc hst (z := (l', fi)) (by rw [hzl]; exact ⟨lg, hf⟩)
        have nx := part_next lg.2.1
        refine ⟨_, rfl, _, _, rfl, rfl, _, _, rfl, ?_⟩
        have em : (if (l' : Int) - 1 > 0 then (l' : Int) - 1 else 0) = ((l' - 1 : Nat) : Int) := by split <;> omega
        rw [em]
        exact ⟨l' - 1, _, _, _, rfl, sB, upd_same, all6, by rw [List.length_append, hzl]; rfl, st6, by omega, nx⟩
    · rintro σ H4 ⟨l, v4, xs, zs, rfl, s4, hB, hall, hzl, hst, hl, hp⟩
      rw [hn] at hzl
      exact ⟨_, rfl, k B xs zs H4 nB s4 hB hall ⟨hzl, hst⟩⟩
end
end T46

set_option Elab.async false
set_option linter.all false
/-! AllMath: all words up to a length, level by level. -/
namespace L2
def grow1 (L : List Nat) (ws : List (List Nat)) : List (List Nat) := ws.flatMap fun w => L.map fun c => w ++ [c]
def lev (L : List Nat) : Nat → List (List Nat)
  | 0 => [[]]
  | i + 1 => grow1 L (lev L i)
def allN (L : List Nat) : Nat → List (List Nat)
  | 0 => [[]]
  | i + 1 => allN L i ++ lev L (i + 1)
theorem grow1_take (L : List Nat) (ws : List (List Nat)) (j : Nat) (w : List Nat) (h : ws[j]? = some w) : grow1 L (ws.take (j + 1)) = grow1 L (ws.take j) ++ L.map fun c => w ++ [c] := by
  unfold grow1
  rw [List.take_succ, h, List.flatMap_append, Option.toList_some, List.flatMap_cons, List.flatMap_nil, List.append_nil]
theorem grow1_len (L : List Nat) : ∀ ws : List (List Nat), (grow1 L ws).length = ws.length * L.length
  | [] => by show 0 = 0 * _; rw [Nat.zero_mul]
  | w :: ws => by
    show (L.map (fun c => w ++ [c]) ++ grow1 L ws).length = _
    rw [List.length_append, List.length_map, grow1_len L ws, List.length_cons, Nat.add_mul, Nat.one_mul, Nat.add_comm]
theorem lev_len (L : List Nat) : ∀ i, (lev L i).length = L.length ^ i
  | 0 => rfl
  | i + 1 => by
    show (grow1 L (lev L i)).length = _
    rw [grow1_len, lev_len L i, Nat.pow_succ]
theorem lev_mem (L : List Nat) : ∀ i, ∀ t ∈ lev L i, t.length = i ∧ ∀ c ∈ t, c ∈ L
  | 0, t, h => by
    rw [List.mem_singleton.mp h]
    exact ⟨rfl, fun c hc => by cases hc⟩
  | i + 1, t, h => by
    obtain ⟨w, hw, ht⟩ := List.mem_flatMap.mp (show t ∈ (lev L i).flatMap _ from h)
    obtain ⟨c, hc, rfl⟩ := List.mem_map.mp ht
    obtain ⟨h1, h2⟩ := lev_mem L i w hw
    refine ⟨by rw [List.length_append, h1]; rfl, fun d hd => ?_⟩
    rcases List.mem_append.mp hd with z | z
    · exact h2 d z
    · rw [List.mem_singleton.mp z]; exact hc
theorem allN_mem (L : List Nat) : ∀ i, ∀ t ∈ allN L i, t.length ≤ i ∧ ∀ c ∈ t, c ∈ L
  | 0, t, h => by
    rw [List.mem_singleton.mp h]
    exact ⟨Nat.le_refl _, fun c hc => by cases hc⟩
  | i + 1, t, h => by
    rcases List.mem_append.mp h with z | z
    · have := allN_mem L i t z
      exact ⟨by omega, this.2⟩
    · have := lev_mem L (i + 1) t z
      exact ⟨by omega, this.2⟩
theorem lev_few {L : List Nat} (h : L.length ≤ 2) {i : Nat} (hi : i ≤ 10) : (lev L i).length ≤ 1024 := by
  rw [lev_len]
  exact Nat.le_trans (Nat.pow_le_pow_left h i) (Nat.pow_le_pow_right (by decide) hi)
theorem allN_few {L : List Nat} (h : L.length ≤ 2) : ∀ i, i ≤ 10 → (allN L i).length ≤ (i + 1) * 1024
  | 0, _ => by show 1 ≤ _; omega
  | i + 1, hi => by
    show (allN L i ++ lev L (i + 1)).length ≤ _
    have h1 := allN_few h i (by omega)
    have h2 := lev_few h hi
    rw [List.length_append]
    omega
end L2

set_option Elab.async false
set_option linter.all false
set_option maxRecDepth 100000
set_option maxHeartbeats 4000000
namespace T46
open PySem PySem.Spec PyProof.Rows L2 EK
def wsV (ws : List (List Nat)) : List V := ws.map fun t => V.str (strL t)
def spAll : Sp := fun vs H Q _ => ∃ (L : List Nat) (m : Nat), vs = [.str (strL L), .int (m : Int)] ∧ L.length ≤ 2 ∧ m ≤ 9 ∧ ∀ q H', H q = none → Same H H' → H' q = some (.lst (wsV (allN L m))) → Q (.ref q) H'
structure TxtA (K : PySem.W.Frag) (mg : Str → Option Value) : Prop where
  range : mg "range" = none
section
variable {P : Program} {w : World} {K : PySem.W.Frag} {mg : Str → Option Value} {base : Heap}
theorem scALL : FnScope ["_law_letters", "_law_most", "_law_found", "_law_last", "_law_turn", "_law_longer", "_law_text_here", "_law_letter"] ["_law_letters", "_law_most"] (defScope sAll) := ⟨rfl, rfl, rfl, by decide +kernel, rfl, by decide +kernel, by decide +kernel⟩
theorem ok_ALL {f : Addr} {fd : FuncData} (F : Fun K "_law_all" "_law_all" sAll f fd) (T : TxtA K mg) : FnOk P w K mg base CX0 1 f fd ["_law_letters", "_law_most"] spAll := by
  refine F.ok scALL (fun vs H Q E h => ?_) (fun cdv A outer s H vs Q E hr h => ?_)
  · obtain ⟨L, m, rfl, _⟩ := h
    rfl
  · obtain ⟨L, m, rfl, hL, hm, k⟩ := h
    have nd := scALL.nd
    have hz : sizeLine = 2 ^ 24 := sizeLine_eq
    refine ⟨_, (pss_cons (ps_par (i := 2) (j := 3) (by rfl) nd rfl rfl (by decide) rfl rfl (pa_cons (pe_lst (pa_cons pe_str pa_nil)) (pa_cons (pe_lst (pa_cons pe_str pa_nil)) pa_nil)) (by rfl))
      (pss_cons (ps_for PassesOwn.never rfl (pi_range1 (by rfl) T.range (pa_cons (pv 1) pa_nil)) (pg_name (i := 4) nd rfl (Or.inl rfl)) (pss_cons (ps_set (i := 5) nd rfl (Or.inl rfl) (pe_lst pa_nil))
      (pss_cons (ps_for PassesOwn.never rfl (pi_list (pv 3)) (pg_name (i := 6) nd rfl (Or.inr rfl)) (pss_one (ps_expr (pe_bm PySem.F.plainAttrs_list PySem.F.slot_list_extend PySem.F.type_list_extend mt_extend (pv 5) (pa_cons (pe_lc (own := [("_law_letter", 7)]) (g := gName 7) (tt := tYes) rfl nd (pi_str (pv 0)) (blkOk_by (N := ["_law_letters", "_law_most", "_law_found", "_law_last", "_law_turn", "_law_longer", "_law_text_here", "_law_letter"]) (sc := defScope sAll) (by decide +kernel)) (fun _ _ _ _ _ => (pg_name (i := 7) nd rfl (Or.inl rfl))) (fun _ _ _ _ _ => pts_nil) (fun _ _ _ _ _ => (pe_op op_add_str (pv 6) (pv 7)))) pa_nil)))))
      (pss_one (ps_par (i := 2) (j := 3) (by rfl) nd rfl rfl (by decide) rfl rfl (pa_cons (pe_op op_cat (pv 2) (pv 5)) (pa_cons (pv 5) pa_nil)) (by rfl))))))
      (pss_one (ps_ret (pv 2))))), ?_⟩
    refine ⟨(by show 1 ≤ sizeLine; omega), fun F0 z0 => ?_⟩
    obtain ⟨H1, e1, S1, A1⟩ := alloc (o := .lst (wsV [[]])) z0
    have e1' : upd H F0 (.lst [.str ""]) = H1 := e1
    rw [e1']
    refine ⟨(by show 1 ≤ sizeLine; omega), fun L0 z1 => ?_⟩
    obtain ⟨H2, e2, S2, A2⟩ := alloc (o := .lst (wsV [[]])) z1
    have e2' : upd H1 L0 (.lst [.str ""]) = H2 := e2
    rw [e2']
    refine ⟨_, _, rfl, ?_⟩
    refine ⟨_, rfl, _, rfl, by omega, by omega, ?_⟩
    refine for_range (lo := 0) (n := ((m : Nat) : Int).toNat) (fun i σ H' => ∃ (v4 v5 v6 v7 : Option V) (F La : Addr), σ = [some (.str (strL L)), some (.int (m : Int)), some (.ref F), some (.ref La), v4, v5, v6, v7] ∧ Same H H' ∧ H F = none ∧ H' F = some (.lst (wsV (allN L i))) ∧ H' La = some (.lst (wsV (lev L i)))) ⟨_, _, _, _, F0, L0, rfl, S1.trans S2, z0, S2 _ _ A1, A2⟩ ?_ ?_
    · rintro i σ H3 hi ⟨v4, v5, v6, v7, F, La, rfl, s3, nF, hF, hLa⟩
      rw [Int.toNat_natCast] at hi
      rw [Int.zero_add]
      have fl := lev_few hL (i := i) (by omega)
      have fl1 := lev_few hL (i := i + 1) (by omega)
      have fa := allN_few hL i (by omega)
      refine ⟨(by show 0 ≤ sizeLine; omega), fun M zM => ?_⟩
      obtain ⟨H4, e4, S4, A4⟩ := alloc (o := .lst (wsV [])) zM
      have e4' : upd H3 M (.lst []) = H4 := e4
      rw [e4']
      have LM : La ≠ M := fun z => by rw [z, zM] at hLa; cases hLa
      have FM : F ≠ M := fun z => by rw [z, zM] at hF; cases hF
      refine ⟨_, rfl, La, rfl, ⟨_, .of (S4 _ _ hLa)⟩, for_list (K := K) (a := La) (xs := wsV (lev L i)) (fun j σ H' => ∃ v6 v7 : Option V, σ = [some (.str (strL L)), some (.int (m : Int)), some (.ref F), some (.ref La), some (.int (i : Int)), some (.ref M), v6, v7] ∧ KeepB M H4 H' ∧ H' M = some (.lst (wsV (grow1 L ((lev L i).take j))))) ⟨_, _, rfl, fun _ _ e _ => e, A4⟩ (fun j σ H' _ ⟨_, _, _, kb, _⟩ => .of (kb _ _ (S4 _ _ hLa) LM)) ?_ ?_⟩
      · rintro j y σ H5 hj ⟨v6, v7, rfl, kb5, hM⟩
        unfold wsV at hj
        rw [List.getElem?_map] at hj
        obtain ⟨x, hx, rfl⟩ := Option.map_eq_some_iff.mp hj
        have xl := (lev_mem L i x (List.mem_of_getElem? hx)).1
        refine ⟨_, rfl, .inl ⟨rfl, _, .of hM⟩, ?_⟩
        refine ⟨_, rfl, strL L, rfl, fun D nD => lc_it (walk_str (z := strL L)) (fun i H' => Same H5 H' ∧ H' D = some (.lst (wsV ((L.take i).map fun c => x ++ [c])))) ⟨fun b o e => by rw [upd_ne (ne_of_none e nD)]; exact e, upd_same⟩ (fun _ _ _ _ => trivial) ?_ ?_⟩
        · rintro n y H6 H7 hn ⟨s6, d6⟩ ⟨rfl, c, hc, rfl⟩
          have hc' : L[n]? = some c := by rw [← strL_list L, Array.getElem?_toList]; exact hc
          refine ⟨rfl, ?_⟩
          refine ⟨_, rfl, _, rfl, _, _, rfl, rfl, (by rw [strL_len, hz]; show _ + 1 ≤ _; omega), ?_⟩
          rw [show (⟨#[c]⟩ : Str) = strL [c] from rfl, strL_add]
          refine ⟨_, d6, ?_, fun b o e => ?_, ?_⟩
          · unfold wsV
            rw [List.length_map, List.length_map, List.length_take]
            exact Nat.lt_of_le_of_lt (Nat.min_le_right _ _) (by omega)
          · rw [upd_ne (ne_of_none e nD)]
            exact s6 _ _ e
          · rw [upd_same, List.take_succ, hc', List.map_append]
            unfold wsV
            rw [List.map_append]
            rfl
        · rintro H6 ⟨s6, d6⟩
          rw [strL_size, List.take_length] at d6
          have MD : M ≠ D := fun z => by rw [z, nD] at hM; cases hM
          have gl : (grow1 L ((lev L i).take j)).length ≤ 1024 * 2 := by
            rw [grow1_len]
            have h2 : ((lev L i).take j).length ≤ 1024 := Nat.le_trans (by rw [List.length_take]; exact Nat.min_le_right _ _) fl
            exact Nat.mul_le_mul h2 hL
          have eq2 : wsV (grow1 L ((lev L i).take j)) ++ wsV (L.map fun c => x ++ [c]) = wsV (grow1 L ((lev L i).take (j + 1))) := by
            rw [grow1_take _ _ _ _ hx]
            unfold wsV
            rw [List.map_append]
          refine ⟨M, D, _, _, rfl, rfl, s6 _ _ hM, d6, ?_, ?_⟩
          · unfold wsV
            rw [List.length_map, List.length_map, List.length_map, hz]
            omega
          · rw [eq2]
            refine ⟨_, _, rfl, fun b o e nb => ?_, upd_same⟩
            rw [upd_ne nb]
            exact s6 _ _ (kb5 _ _ e nb)
      · rintro σ H5 ⟨v6, v7, rfl, kb5, hM⟩
        have wl2 : (wsV (lev L i)).length = (lev L i).length := List.length_map ..
        rw [wl2, List.take_length] at hM
        have hM' : H5 M = some (.lst (wsV (lev L (i + 1)))) := hM
        have hF5 := kb5 _ _ (S4 _ _ hF) FM
        have nM : H M = none := by
          cases e : H M with
          | none => rfl
          | some o => rw [s3 _ _ e] at zM; cases zM
        refine ⟨_, rfl, _, rfl, F, M, _, _, rfl, rfl, hF5, hM', ?_, fun G zG => ?_⟩
        · unfold wsV
          rw [List.length_map, List.length_map, hz]
          have : (i + 1) * 1024 ≤ 10 * 1024 := Nat.mul_le_mul_right _ (by omega)
          omega
        obtain ⟨H6, e6, S6, A6⟩ := alloc (o := .lst (wsV (allN L i) ++ wsV (lev L (i + 1)))) zG
        rw [e6]
        have nG : H G = none := by
          cases e : H G with
          | none => rfl
          | some o =>
            have := kb5 _ _ (S4 _ _ (s3 _ _ e)) (fun z => by rw [z, nM] at e; cases e)
            rw [this] at zG; cases zG
        refine ⟨_, rfl, _, _, rfl, ?_⟩
        refine ⟨_, _, _, _, G, M, rfl, fun b o e => S6 _ _ (kb5 _ _ (S4 _ _ (s3 _ _ e)) fun z => by rw [z, nM] at e; cases e), nG, ?_, S6 _ _ hM'⟩
        rw [A6]
        show some (HO.lst (wsV (allN L i) ++ wsV (lev L (i + 1)))) = some (HO.lst (wsV (allN L i ++ lev L (i + 1))))
        unfold wsV
        rw [List.map_append]
    · rintro σ H3 ⟨v4, v5, v6, v7, F, La, rfl, s3, nF, hF, hLa⟩
      rw [Int.toNat_natCast] at hF
      exact ⟨_, rfl, k F H3 nF s3 hF⟩
end
end T46

set_option Elab.async false
set_option linter.all false
set_option maxRecDepth 100000
set_option maxHeartbeats 4000000
/-! SortKit: a list put in order, as a plain function that evaluates. -/
namespace L2
open PySem
section
variable {α : Type} (le : α → α → Bool)
def ins (a : α) : List α → List α
  | [] => [a]
  | b :: r => if le a b = true then a :: b :: r else b :: ins a r
def isort : List α → List α
  | [] => []
  | a :: r => ins le a (isort r)
theorem ins_perm (a : α) : ∀ l, (ins le a l).Perm (a :: l)
  | [] => .refl _
  | b :: r => by
    unfold ins
    split
    · exact .refl _
    · exact ((ins_perm a r).cons b).trans (.swap a b r)
theorem isort_perm : ∀ l, (isort le l).Perm l
  | [] => .refl _
  | a :: r => (ins_perm le a _).trans ((isort_perm r).cons a)
variable (trans : ∀ x y z, le x y = true → le y z = true → le x z = true) (total : ∀ x y, (le x y || le y x) = true)
include trans total
theorem ins_sorted (a : α) : ∀ {l : List α}, l.Pairwise (fun x y => le x y = true) → (ins le a l).Pairwise (fun x y => le x y = true)
  | [], _ => List.pairwise_singleton _ _
  | b :: r, h => by
    obtain ⟨h1, h2⟩ := List.pairwise_cons.mp h
    unfold ins
    split
    · rename_i q
      refine List.pairwise_cons.mpr ⟨fun c hc => ?_, h⟩
      rcases List.mem_cons.mp hc with rfl | hc
      · exact q
      · exact trans _ _ _ q (h1 c hc)
    · rename_i q
      refine List.pairwise_cons.mpr ⟨fun c hc => ?_, ins_sorted a h2⟩
      have hc2 := (ins_perm le a r).mem_iff.mp hc
      rcases List.mem_cons.mp hc2 with rfl | hc2
      · have t := total c b
        rw [Bool.or_eq_true] at t
        exact t.resolve_left q
      · exact h1 c hc2
theorem isort_sorted : ∀ l : List α, (isort le l).Pairwise (fun x y => le x y = true)
  | [] => List.Pairwise.nil
  | a :: r => ins_sorted le trans total a (isort_sorted r)
omit trans total in
theorem sorted_uniq : ∀ {l m : List α}, (∀ x ∈ l, ∀ y ∈ l, le x y = true → le y x = true → x = y) → l.Perm m → l.Pairwise (fun x y => le x y = true) → m.Pairwise (fun x y => le x y = true) → l = m
  | [], m, _, p, _, _ => by rw [List.nil_perm.mp p]
  | a :: l, m, an, p, h1, h2 => by
    cases m with
    | nil => exact absurd p.length_eq (by simp)
    | cons b m =>
      obtain ⟨s1, s2⟩ := List.pairwise_cons.mp h1
      obtain ⟨t1, t2⟩ := List.pairwise_cons.mp h2
      have e : a = b := by
        have ha : a ∈ b :: m := p.mem_iff.mp List.mem_cons_self
        have hb : b ∈ a :: l := p.mem_iff.mpr List.mem_cons_self
        rcases List.mem_cons.mp ha with e | ha
        · exact e
        rcases List.mem_cons.mp hb with e | hb2
        · exact e.symm
        exact an _ List.mem_cons_self _ hb (s1 b hb2) (t1 a ha)
      subst e
      rw [sorted_uniq (fun x hx y hy => an x (List.mem_cons_of_mem _ hx) y (List.mem_cons_of_mem _ hy)) p.cons_inv s2 t2]
theorem msort_isort (l : List α) (an : ∀ x ∈ l, ∀ y ∈ l, le x y = true → le y x = true → x = y) : l.mergeSort le = isort le l := by
  refine sorted_uniq le (fun x hx y hy => an x ((List.mergeSort_perm l le).mem_iff.mp hx) y ((List.mergeSort_perm l le).mem_iff.mp hy)) ((List.mergeSort_perm l le).trans (isort_perm le l).symm) ?_ (isort_sorted le trans total l)
  exact List.pairwise_mergeSort (fun a b c => trans a b c) (fun a b => total a b) l
end
/-- a sign and its place, as data -/
def skey (cs : List Nat) (i : Nat) : PyData := .tuple [.str ⟨#[cs.getD i 0]⟩, .int i]
/-- a pair of an address and its place, by sign and place -/
def dle {β : Type} (k : β → PyData) : β → β → Bool := PySem.W.dataLe false k
theorem dle_trans {β : Type} (k : β → PyData) (x y z : β) (h1 : dle k x y = true) (h2 : dle k y z = true) : dle k x z = true := (PySem.W.sortLe_total (PyProof.Rows.listOrd PyProof.Rows.itemOrd) false fun b => PySem.W.keyToks (k b)).trans x y z h1 h2
theorem dle_total {β : Type} (k : β → PyData) (x y : β) : (dle k x y || dle k y x) = true := by
  rw [Bool.or_eq_true]
  exact (PySem.W.sortLe_total (PyProof.Rows.listOrd PyProof.Rows.itemOrd) false fun b => PySem.W.keyToks (k b)).total x y
theorem dle_anti {β : Type} {k : β → PyData} {x y : β} (h1 : dle k x y = true) (h2 : dle k y x = true) : PySem.W.keyToks (k x) = PySem.W.keyToks (k y) := by
  have e1 : (!(PyProof.Rows.listOrd PyProof.Rows.itemOrd).blt (PySem.W.keyToks (k y)) (PySem.W.keyToks (k x))) = true := h1
  have e2 : (!(PyProof.Rows.listOrd PyProof.Rows.itemOrd).blt (PySem.W.keyToks (k x)) (PySem.W.keyToks (k y))) = true := h2
  rw [Bool.not_eq_true'] at e1 e2
  exact (PyProof.Rows.listOrd PyProof.Rows.itemOrd).total _ _ e2 e1
/-- the places in the order of their signs -/
def ordI (cs : List Nat) : List Nat := isort (dle (skey cs)) (List.range cs.length)
theorem skey_inj {cs ds : List Nat} {i j : Nat} (h : PySem.W.keyToks (skey cs i) = PySem.W.keyToks (skey ds j)) : i = j := by
  have e1 : ∀ (es : List Nat) (n : Nat), PySem.W.keyToks (skey es n) = [.inl 1, .inr [es.getD n 0], .inl 1, .inl n, .inl 0] := fun es n => by
    simp [skey, PySem.W.keyToks, PySem.W.keyToksAll]
  rw [e1, e1] at h
  injection h with _ h
  injection h with _ h
  injection h with _ h
  injection h with h _
  injection h with h
  exact Int.ofNat.inj h
/-- the pairs at their places, put in order: as ordI says -/
theorem sort_pairs (cs : List Nat) (bs : List (V × PyData)) (f : Nat → Addr) (e : bs = (List.range cs.length).map fun i => (V.ref (f i), skey cs i)) :
    (bs.mergeSort (PySem.W.dataLe false (·.2))).map (·.1) = (ordI cs).map fun i => V.ref (f i) := by
  have h1 := List.map_mergeSort (f := fun i : Nat => (V.ref (f i), skey cs i)) (r := dle (skey cs)) (s := PySem.W.dataLe false (·.2)) (l := List.range cs.length) fun a _ b _ => rfl
  rw [e, ← h1, List.map_map, msort_isort (dle (skey cs)) (dle_trans _) (dle_total _) _ fun x _ y _ h1 h2 => skey_inj (dle_anti h1 h2)]
  rfl
example : ordI [98, 97, 36, 97] = [2, 1, 3, 0] := by decide +kernel
end L2

set_option Elab.async false
set_option linter.all false
set_option maxRecDepth 100000
set_option maxHeartbeats 4000000
/-! IntsKit: tuples and lists of ints as data. -/
namespace L2
open PySem
def tI (ns : List Int) : PyData := .tuple (ns.map PyData.int)
def lI (ns : List Int) : PyData := .list (ns.map PyData.int)
theorem dp_ints {K : PySem.W.Frag} {H : Hp} : ∀ ns : List Int, DpAll K H (ns.map V.int) (ns.map PyData.int)
  | [] => .nil
  | n :: r => .cons (.int n) (dp_ints r)
theorem dp_tI {K : PySem.W.Frag} {H : Hp} {a : Addr} {ns : List Int} (h : SqT K H a (ns.map V.int)) : Dp K H (.ref a) (tI ns) := .tup h (dp_ints ns)
theorem dp_lI {K : PySem.W.Frag} {H : Hp} {a : Addr} {ns : List Int} (h : SqL K H a (ns.map V.int)) : Dp K H (.ref a) (lI ns) := .lst h (dp_ints ns)
theorem shaped_lI (ns : List Int) : SeqAt.shaped (lI ns) = true := PySem.W.ke_shaped_ints ns
theorem shaped_tI (ns : List Int) : SeqAt.shaped (tI ns) = true := by
  simp [tI, SeqAt.shaped, PyData.canLay0, PyData.depth, PySem.W.ke_canLayAll0, PySem.W.ke_depthAll]
theorem eqvAll_ints : ∀ ns ms : List Int, PyData.eqvAll (ns.map PyData.int) (ms.map PyData.int) = decide (ns = ms)
  | [], [] => by simp [PyData.eqvAll]
  | [], _ :: _ => by simp [PyData.eqvAll]
  | _ :: _, [] => by simp [PyData.eqvAll]
  | n :: r, k :: q => by
    simp only [List.map_cons, PyData.eqvAll, PyData.eqv, eqvAll_ints r q]
    by_cases h : n = k <;> simp [h]
theorem eqv_tI (ns ms : List Int) : PyData.eqv (tI ns) (tI ms) = decide (ns = ms) := by
  unfold tI
  simp only [PyData.eqv]
  exact eqvAll_ints ns ms
theorem eqv_lI (ns ms : List Int) : PyData.eqv (lI ns) (lI ms) = decide (ns = ms) := by
  unfold lI
  simp only [PyData.eqv]
  exact eqvAll_ints ns ms
theorem depth_tI (ns : List Int) : (tI ns).depth = 1 := by simp [tI, PyData.depth, PySem.W.ke_depthAll]
theorem flat_ints (ns : List Int) : (ns.map V.int).all flatV = true := by
  rw [List.all_map, List.all_eq_true]
  intro n _
  rfl
theorem inV_ints (k : Int) (ns : List Int) : inV (.int k) (ns.map V.int) = ns.any (· == k) := by
  unfold inV
  rw [List.any_map]
  rfl
/-- a tuple of ints -/
def RTup (H : Hp) (x : V) (ns : List Int) : Prop := ∃ p, x = .ref p ∧ H p = some (.tup (ns.map V.int))
theorem rtup_keep (H H' : Hp) (x : V) (ns : List Int) (k : KeepL H H') (r : RTup H x ns) : RTup H' x ns := by
  obtain ⟨p, rfl, e⟩ := r
  exact ⟨p, rfl, k _ _ e fun _ z => by cases z⟩
theorem rtup_same (H H' : Hp) (x : V) (ns : List Int) (s : ∀ b o, H b = some o → H' b = some o) (r : RTup H x ns) : RTup H' x ns := rtup_keep H H' x ns (.of s) r
def RInt (_ : Hp) (x : V) (n : Int) : Prop := x = .int n
theorem rint_keep (H H' : Hp) (x : V) (n : Int) (_ : KeepL H H') (r : RInt H x n) : RInt H' x n := r
theorem rint_map {H : Hp} {ys : List V} {ns : List Int} (h : All2 (RInt H) ys ns) : ys = ns.map V.int := All2.eq_map (f := V.int) h
/-- tuples of ints by their order -/
def leT (a b : List Int) : Bool := dle tI a b
def sortT (xs : List (List Int)) : List (List Int) := isort leT xs
theorem toks_tI (ns : List Int) : ∃ r, PySem.W.keyToks (tI ns) = r := ⟨_, rfl⟩
end L2
namespace L2
open PySem
theorem toksAll_inj : ∀ {ns ms : List Int}, PySem.W.keyToksAll (ns.map PyData.int) = PySem.W.keyToksAll (ms.map PyData.int) → ns = ms
  | [], [], _ => rfl
  | [], m :: r, h => by simp [PySem.W.keyToksAll] at h
  | n :: r, [], h => by simp [PySem.W.keyToksAll] at h
  | n :: r, m :: q, h => by
    simp only [List.map_cons, PySem.W.keyToksAll, PySem.W.keyToks, List.cons_append, List.nil_append] at h
    injection h with _ h
    injection h with h1 h2
    injection h1 with h1
    rw [h1, toksAll_inj h2]
theorem toks_inj {ns ms : List Int} (h : PySem.W.keyToks (tI ns) = PySem.W.keyToks (tI ms)) : ns = ms := by
  unfold tI at h
  simp only [PySem.W.keyToks] at h
  exact toksAll_inj h
theorem zip_snd {α β : Type} {R : α → β → Prop} {xs : List α} {zs : List β} (h : All2 R xs zs) : (xs.zip zs).map (·.2) = zs ∧ (∀ q ∈ xs.zip zs, R q.1 q.2) ∧ (xs.zip zs).map (·.1) = xs := by
  induction h with
  | nil => exact ⟨rfl, fun q hq => (by cases hq), rfl⟩
  | cons h t ih =>
    refine ⟨?_, fun q hq => ?_, ?_⟩
    · rw [List.zip_cons_cons, List.map_cons, ih.1]
    · rw [List.zip_cons_cons] at hq
      rcases List.mem_cons.mp hq with rfl | hq
      · exact h
      · exact ih.2.1 q hq
    · rw [List.zip_cons_cons, List.map_cons, ih.2.2]
theorem all2_of_pairs {α β : Type} {R : α → β → Prop} : ∀ {qs : List (α × β)}, (∀ q ∈ qs, R q.1 q.2) → All2 R (qs.map (·.1)) (qs.map (·.2))
  | [], _ => .nil
  | q :: qs, h => .cons (h q List.mem_cons_self) (all2_of_pairs fun p hp => h p (List.mem_cons_of_mem _ hp))
def prD (q : V × List Int) : V × PyData := (q.1, tI q.2)
theorem sorted_tups {R : V → List Int → Prop} {xs : List V} {zs : List (List Int)} (h : All2 R xs zs) : All2 R ((((xs.zip zs).map prD).mergeSort (PySem.W.dataLe false (·.2))).map (·.1)) (sortT zs) := by
  obtain ⟨e2, hR, _⟩ := zip_snd h
  have h1 := List.map_mergeSort (f := prD) (r := dle fun q : V × List Int => tI q.2) (s := PySem.W.dataLe false (·.2)) (l := xs.zip zs) fun a _ b _ => rfl
  rw [← h1, List.map_map]
  have hp := List.mergeSort_perm (xs.zip zs) (dle fun q : V × List Int => tI q.2)
  have hs : ((xs.zip zs).mergeSort (dle fun q : V × List Int => tI q.2)).Pairwise (fun x y => dle (fun q : V × List Int => tI q.2) x y = true) := List.pairwise_mergeSort (fun a b c => dle_trans _ a b c) (fun a b => dle_total _ a b) _
  have e3 : ((xs.zip zs).mergeSort (dle fun q : V × List Int => tI q.2)).map (·.2) = sortT zs := by
    refine sorted_uniq leT (fun x _ y _ a b => toks_inj (dle_anti a b)) ?_ ?_ (isort_sorted leT (dle_trans tI) (dle_total tI) zs)
    · have q := (hp.map (·.2)).trans (by rw [e2])
      exact q.trans (isort_perm leT zs).symm
    · rw [List.pairwise_map]
      exact hs
  rw [← e3]
  exact all2_of_pairs fun q hq => hR q (hp.mem_iff.mp hq)
theorem alike_ints : ∀ ns ms : List Int, PySem.W.alikeAll (ns.map PyData.int) (ms.map PyData.int) = true
  | [], [] => rfl
  | [], _ :: _ => rfl
  | _ :: _, [] => rfl
  | n :: r, m :: q => by simp [PySem.W.alikeAll, PySem.W.alike, alike_ints r q]
/-- sorted(xs) of tuples of ints, none empty -/
theorem sortedT_ok {K : PySem.W.Frag} {H : Hp} {a : Addr} {xs : List V} {zs : List (List Int)} {Q : VK} (hS : H a = some (.lst xs)) (h : All2 (RTup H) xs zs) (hne : ∀ z ∈ zs, z ≠ [])
    (k : ∀ p ys, H p = none → All2 (RTup H) ys (sortT zs) → Q (.ref p) (upd H p (.lst ys))) : rSortedD K [V.ref a] H Q := by
  obtain ⟨e2, hR, e1⟩ := zip_snd h
  have em : ((xs.zip zs).map prD).map (·.1) = xs := by
    rw [List.map_map]
    exact e1
  have ed : ((xs.zip zs).map prD).map (·.2) = zs.map tI := by
    rw [List.map_map]
    conv => rhs; rw [← e2, List.map_map]
    rfl
  refine ⟨a, (xs.zip zs).map prD, rfl, by rw [em]; exact .of hS, fun b hb => ?_, ?_, ?_, fun b hb => ?_, fun p hp => k p _ hp (sorted_tups h)⟩
  · obtain ⟨q, hq, rfl⟩ := List.mem_map.mp hb
    obtain ⟨p, e, hp⟩ := hR q hq
    show Dp K H q.1 (tI q.2)
    rw [e]
    exact dp_tI (.of hp)
  · rw [ed]
    intro d hd d' hd'
    obtain ⟨n, _, rfl⟩ := List.mem_map.mp hd
    obtain ⟨m, _, rfl⟩ := List.mem_map.mp hd'
    simp only [tI, PySem.W.alike]
    exact alike_ints n m
  · rw [ed]
    refine .inl fun d hd => ?_
    obtain ⟨n, hn, rfl⟩ := List.mem_map.mp hd
    cases n with
    | nil => exact absurd rfl (hne _ hn)
    | cons n r => exact ⟨.int n, r.map PyData.int, rfl⟩
  · obtain ⟨q, hq, rfl⟩ := List.mem_map.mp hb
    show (tI q.2).depth ≤ 50
    rw [depth_tI]
    decide
end L2
namespace L2
open PySem
theorem catA_ok {K : PySem.W.Frag} {H : Hp} {a b : Addr} {xs ys : List V} {Q : VK} (ha : H a = some (.tup xs)) (hb : H b = some (.tup ys)) (hl : xs.length + ys.length ≤ sizeLine) (k : ∀ p H', Same H H' → H' p = some (.tup (xs ++ ys)) → Q (.ref p) H') : rCatA K (.ref a) (.ref b) H Q :=
  ⟨a, b, xs, ys, rfl, rfl, .of ha, .of hb, hl, fun e => k _ _ (.refl _) (by rw [e]; exact hb), fun _ e => k _ _ (.refl _) (by rw [e, List.append_nil]; exact ha), fun _ _ p hp => k _ _ (fun c u e => by rw [upd_ne (ne_of_none e hp)]; exact e) upd_same⟩
theorem cutV_whole (xs : List V) (lo hi : Option Int) (h : HT.sIx xs.length 0 lo = 0 ∧ HT.sIx xs.length xs.length hi = xs.length) : cutV xs lo hi = xs := by
  unfold cutV
  rw [h.1, h.2]
  simp
theorem slA_ok {K : PySem.W.Frag} {H : Hp} {a : Addr} {xs : List V} {lo hi : Option Int} {Q : VK} (ha : H a = some (.tup xs)) (k : ∀ p H', Same H H' → H' p = some (.tup (cutV xs lo hi)) → Q (.ref p) H') : rSlA K (.ref a) lo hi H Q :=
  ⟨a, xs, rfl, .of ha, fun e => k _ _ (.refl _) (by rw [cutV_whole xs lo hi e]; exact ha), fun _ p hp => k _ _ (fun c u e => by rw [upd_ne (ne_of_none e hp)]; exact e) upd_same⟩
end L2
namespace L2
open PySem PySem.Spec PyProof.Rows
section
variable {X : Cx}
/-- xs + ys of lists that may be read only -/
def rCatS (K : PySem.W.Frag) : R2 := fun x y H Q => ∃ l b xs zs, x = .ref l ∧ y = .ref b ∧ SqL K H l xs ∧ SqL K H b zs ∧ xs.length + zs.length ≤ sizeLine ∧ ∀ p, H p = none → Q (.ref p) (upd H p (.lst (xs ++ zs)))
theorem op_catS : OpR X (binaryOp .Add) (rCatS X.K) := by
  intro pins s σ H x y v u Q I rx ry h
  obtain ⟨l, b, xs, zs, rfl, rfl, ha, hb, hz, q⟩ := h
  cases rx
  cases ry
  obtain ⟨its, r1, p1, _⟩ := I.list ha
  obtain ⟨its2, r2, p2, _⟩ := I.list hb
  obtain ⟨⟨cls, dd, data, sl⟩, n, ho, hc, hdn, hd⟩ := p1
  obtain ⟨⟨cls2, dd2, data2, sl2⟩, n2, ho2, hc2, hdn2, hd2⟩ := p2
  simp only at hc hdn hd hc2 hdn2 hd2
  subst hc hdn hd hc2 hdn2 hd2
  have l1 := r1.length
  have l2 := r2.length
  refine concat_meets ⟨_, ho, rfl⟩ ⟨_, ho2, rfl⟩ noFill_list_add seq_list_add PySem.F.slot_list_add PySem.F.entry_list_add (PySem.F.args_list_add_2 _ _)
    (list_addW l b its.toArray its2.toArray n n2 none none sl sl2 (by rw [List.size_toArray, List.size_toArray]; omega)) ⟨ho, ho2, ?_⟩
  have ea : its.toArray ++ its2.toArray = (its ++ its2).toArray := by simp
  rw [ea]
  exact ⟨.ref _, _, I.lnew (t' := s.toks) (r1.append r2) (by rw [List.length_append]; omega), rfl, q _ I.fresh⟩
end
end L2

set_option Elab.async false
set_option linter.all false
set_option maxRecDepth 100000
set_option maxHeartbeats 4000000
namespace T46
open PySem PySem.Spec PyProof.Rows L2 EK
theorem cp_take2 (a b : List Nat) (m : Nat) (hb : m ≤ b.length) : a.take m = b.take m ↔ m ≤ cp a b := by
  by_cases ha : m ≤ a.length
  · exact cp_take a b m ha hb
  · constructor
    · intro e
      have := congrArg List.length e
      rw [List.length_take, List.length_take] at this
      omega
    · intro h
      have := cp_le1 a b
      omega
def szN (c : Nat) : List Int := (List.range c).map fun n => ((n + 1 : Nat) : Int)
theorem szN_succ (c : Nat) : szN (c + 1) = szN c ++ [((c + 1 : Nat) : Int)] := by
  unfold szN
  rw [List.range_succ, List.map_append]
  rfl
structure TxtB (K : PySem.W.Frag) (mg : Str → Option Value) : Prop where
  len : mg "len" = none
  range : mg "range" = none
section
variable {P : Program} {w : World} {K : PySem.W.Frag} {mg : Str → Option Value} {base : Heap}
theorem scDUE : FnScope ["_law_text_here", "_law_other", "_law_found", "_law_place", "_law_most", "_law_where", "_law_k", "_law_same", "_law_size"] ["_law_text_here", "_law_other"] (defScope sDue) := ⟨rfl, rfl, rfl, by decide +kernel, rfl, by decide +kernel, by decide +kernel⟩
theorem scFAR : FnScope ["_law_text_here", "_law_other", "_law_found", "_law_place", "_law_low", "_law_high", "_law_turn", "_law_middle"] ["_law_text_here", "_law_other"] (defScope sFarDue) := ⟨rfl, rfl, rfl, by decide +kernel, rfl, by decide +kernel, by decide +kernel⟩
theorem ok_DUE {f : Addr} {fd : FuncData} (F : Fun K "_law_due" "_law_due" sDue f fd) (T : TxtB K mg) : FnOk P w K mg base CX0 1 f fd ["_law_text_here", "_law_other"] spTell := by
  refine F.ok scDUE (fun vs H Q E h => ?_) (fun cdv A outer s H vs Q E hr h => ?_)
  · obtain ⟨t, u, rfl, _⟩ := h
    rfl
  · obtain ⟨t, u, rfl, two, k⟩ := h
    have nd := scDUE.nd
    have hz : sizeLine = 2 ^ 24 := sizeLine_eq
    have l1 := two.l1
    have l2 := two.l2
    have ul : (strL u).length = u.length := strL_len u
    have tl : (strL t).length = t.length := strL_len t
    have hu : (A.deeper (PyProof.Rows.envOfC "_law_due" (defScope sDue) s.heap.objs.size f cdv)).units + 64 < cLine := hr.units
    refine ⟨_, (pss_cons (ps_set (i := 2) nd rfl (Or.inl rfl) (pe_lst pa_nil))
      (pss_cons (ps_for PassesOwn.never rfl (pi_range1 (by rfl) T.range (pa_cons (pe_callB call_len_str (by rfl) T.len (by decide +kernel) (pa_cons (pv 1) pa_nil)) pa_nil)) (pg_name (i := 3) nd rfl (Or.inr rfl)) (pss_cons (ps_asg (pe_tup (pa_cons pe_int (pa_cons pe_int pa_nil))) (pg_tup rfl (pgs_cons (pg_name (i := 4) nd rfl (Or.inl rfl)) (pgs_cons (pg_name (i := 5) nd rfl (Or.inl rfl)) pgs_nil))))
      (pss_cons (ps_for PassesOwn.never rfl (pi_range1 (by rfl) T.range (pa_cons (pe_callB call_len_str (by rfl) T.len (by decide +kernel) (pa_cons (pv 0) pa_nil)) pa_nil)) (pg_name (i := 6) nd rfl (Or.inr rfl)) (pss_cons (ps_setLc (i := 7) (own := [("_law_size", 8)]) (g := gName 8) rfl nd rfl rfl (sw_true rfl rfl rfl (by decide +kernel)) (pi_range2 (by rfl) T.range (pa_cons pe_int (pa_cons (pe_op op_add (pe_op op_sub (pe_callB call_len_str (by rfl) T.len (by decide +kernel) (pa_cons (pv 0) pa_nil)) (pv 6)) pe_int) pa_nil))) (blkOk_by (N := ["_law_text_here", "_law_other", "_law_found", "_law_place", "_law_most", "_law_where", "_law_k", "_law_same", "_law_size"]) (sc := defScope sDue) (by decide +kernel)) (fun _ _ _ _ _ => (pg_name (i := 8) nd rfl (Or.inl rfl))) (fun _ _ _ _ _ => (pts_one (pt_cmpR op_eq (pe_slice sl_str (pv 1) (po_some (pv 3)) (po_some (pe_op op_add (pv 3) (pv 8)))) (pe_slice sl_str (pv 0) (po_some (pv 6)) (po_some (pe_op op_add (pv 6) (pv 8)))) (nomark _)))) (fun _ _ _ _ _ => (pv 8)))
      (pss_one (ps_if (PW.pt (pw_and (pt_cmpR (op_neD hu) (pv 7) (pe_lst pa_nil) (nomark _)) (pw_and1 (pt_cmpR op_gt (pe_ix ix_list (pv 7) (pe_un un_neg pe_int) (fun _ _ => rfl)) (pv 4) (nomark _))))) (pss_one (ps_par (i := 4) (j := 5) (by rfl) nd rfl rfl (by decide) rfl rfl (pa_cons (pe_ix ix_list (pv 7) (pe_un un_neg pe_int) (fun _ _ => rfl)) (pa_cons (pv 6) pa_nil)) (by rfl))) pss_nil))))
      (pss_one (ps_expr (pe_bm PySem.F.plainAttrs_list PySem.F.slot_list_append PySem.F.type_list_append mt_append (pv 2) (pa_cons (pe_tup (pa_cons (pv 4) (pa_cons (pv 5) pa_nil))) pa_nil)))))))
      (pss_one (ps_ret (pv 2))))), ?_⟩
    refine ⟨(by show 0 ≤ sizeLine; omega), fun B nB => ?_⟩
    obtain ⟨H1, e1, S1, A1⟩ := alloc (o := .lst []) nB
    rw [e1]
    refine ⟨_, rfl, strL u, rfl, (by rw [ul, hz]; omega), ?_⟩
    refine ⟨_, rfl, (by rw [ul]; omega), (by rw [ul]; omega), ?_⟩
    have hn : (((strL u).length : Nat) : Int).toNat = u.length := by rw [ul]; omega
    refine for_range (lo := 0) (n := (((strL u).length : Nat) : Int).toNat) (fun i σ H' => ∃ (v3 v4 v5 v6 v7 v8 : Option V) (xs : List V) (zs : List (Nat × Nat)), σ = [some (.str (strL t)), some (.str (strL u)), some (.ref B), v3, v4, v5, v6, v7, v8] ∧ Same H H' ∧ H' B = some (.lst xs) ∧ All2 (PairAt H') xs zs ∧ zs.length = i ∧ (∀ p z, zs[p]? = some z → StatAt t (u.drop p) z)) ⟨_, _, _, _, _, _, [], [], rfl, S1, A1, .nil, rfl, statL_nil t u⟩ ?_ ?_
    · rintro i σ H2 hi ⟨v3, v4, v5, v6, v7, v8, xs, zs, rfl, s2, hB, hall, hzl, hst⟩
      rw [hn] at hi
      rw [Int.zero_add]
      refine ⟨(by show 2 ≤ sizeLine; decide), fun p0 zp0 => ?_⟩
      obtain ⟨H20, e20, S20, A20⟩ := alloc (o := .tup [.int 0, .int 0]) zp0
      rw [e20]
      refine ⟨p0, _, rfl, .of A20, rfl, _, _, rfl, _, _, rfl, rfl, ?_⟩
      have hB20 := S20 _ _ hB
      refine ⟨_, rfl, strL t, rfl, (by rw [tl, hz]; omega), ?_⟩
      refine ⟨_, rfl, (by rw [tl]; omega), (by rw [tl]; omega), ?_⟩
      have hm : (((strL t).length : Nat) : Int).toNat = t.length := by rw [tl]; omega
      refine for_range (lo := 0) (n := (((strL t).length : Nat) : Int).toNat) (fun j σ H' => ∃ (most wh : Nat) (v6 v7 v8 : Option V), σ = [some (.str (strL t)), some (.str (strL u)), some (.ref B), some (.int (i : Int)), some (.int (most : Int)), some (.int (wh : Int)), v6, v7, v8] ∧ Same H20 H' ∧ Best t (u.drop i) j most wh) ⟨0, 0, _, _, _, rfl, .refl _, best_zero t _⟩ ?_ ?_
      · rintro j σ H3 hj ⟨most, wh, v6, v7, v8, rfl, s3, best⟩
        rw [hm] at hj
        rw [Int.zero_add]
        obtain ⟨c, hc⟩ : ∃ c, cp (u.drop i) (t.drop j) = c := ⟨_, rfl⟩
        have c2 := cp_le2 (u.drop i) (t.drop j)
        rw [hc, List.length_drop] at c2
        refine ⟨_, rfl, strL t, rfl, (by rw [tl, hz]; omega), _, rfl, _, _, rfl, rfl, _, _, rfl, rfl, 1, _, rfl, ?_⟩
        refine ⟨⟨by decide, by decide, by rw [tl]; omega, by rw [tl]; omega⟩, fun D nD => ?_⟩
        have en : ((((strL t).length : Nat) : Int) - (j : Int) + 1 - 1).toNat = t.length - j := by rw [tl]; omega
        refine lc_range (lo := 1) (n := ((((strL t).length : Nat) : Int) - (j : Int) + 1 - 1).toNat) (fun n H' => Same H3 H' ∧ H' D = some (.lst ((szN (min n c)).map V.int))) ⟨fun b o e => by rw [upd_ne (ne_of_none e nD)]; exact e, by rw [upd_same, Nat.zero_min]; rfl⟩ ?_ ?_
        · rintro n H4 hn4 ⟨s4, d4⟩
          rw [en] at hn4
          refine ⟨rfl, ?_⟩
          refine ⟨_, rfl, _, rfl, _, rfl, _, rfl, _, rfl, _, _, rfl, rfl, _, rfl, _, rfl, (by rw [ul, hz]; omega), ?_⟩
          refine ⟨_, rfl, _, rfl, _, rfl, _, rfl, _, rfl, _, _, rfl, rfl, _, rfl, _, rfl, (by rw [tl, hz]; omega), ?_⟩
          refine ⟨rfl, _, rfl, ?_⟩
          have ea : (i : Int) + (1 + (n : Int)) = ((i + (n + 1) : Nat) : Int) := by omega
          have eb : (j : Int) + (1 + (n : Int)) = ((j + (n + 1) : Nat) : Int) := by omega
          dsimp only
          rw [ea, eb, cutN, cutN, List.drop_take, List.drop_take, Nat.add_sub_cancel_left, Nat.add_sub_cancel_left, strL_dec]
          have hb : n + 1 ≤ (t.drop j).length := by rw [List.length_drop]; omega
          by_cases h : (u.drop i).take (n + 1) = (t.drop j).take (n + 1)
          · have hc1 := (cp_take2 _ _ _ hb).mp h
            rw [hc] at hc1
            refine iteY (decide_eq_true h) ?_
            refine ⟨_, rfl, _, d4, ?_, fun b o e => ?_, ?_⟩
            · unfold szN
              rw [List.length_map, List.length_map, List.length_range, hz]
              omega
            · rw [upd_ne (ne_of_none e nD)]
              exact s4 _ _ e
            · rw [upd_same, Nat.min_eq_left hc1, Nat.min_eq_left (show n ≤ c by omega), szN_succ, List.map_append, show (1 : Int) + (n : Int) = ((n + 1 : Nat) : Int) by omega]
              rfl
          · have hc1 : ¬ n + 1 ≤ c := fun z => h ((cp_take2 _ _ _ hb).mpr (by rw [hc]; exact z))
            refine iteN (decide_eq_false h) ?_
            exact ⟨s4, by rw [d4, Nat.min_eq_right (show c ≤ n by omega), Nat.min_eq_right (show c ≤ n + 1 by omega)]⟩
        · rintro H4 ⟨s4, d4⟩
          rw [en, Nat.min_eq_right c2] at d4
          refine ⟨_, rfl, (by show 0 ≤ sizeLine; omega), fun p1 z1 => ?_⟩
          obtain ⟨H5, e5, S5, A5⟩ := alloc (o := .lst (([] : List Int).map V.int)) z1
          have e5' : upd H4 p1 (.lst []) = H5 := e5
          rw [e5']
          have d5 := S5 _ _ d4
          refine ⟨lI (szN c), lI [], dp_lI (.of d5), dp_lI (.of A5), shaped_lI _, shaped_lI _, _, rfl, ?_⟩
          rw [eqv_lI]
          have s5 : Same H20 H5 := (s3.trans s4).trans S5
          cases c with
          | zero =>
            refine iteN rfl ?_
            exact ⟨most, wh, _, _, _, rfl, s5, best_no best (by rw [hc]; exact Nat.zero_le _)⟩
          | succ c =>
            refine iteY (by rw [szN_succ]; simp) ?_
            have la : atI ((szN (c + 1)).map V.int) (-1) = some (V.int ((c + 1 : Nat) : Int)) := by
              rw [szN_succ, List.map_append]
              exact L2.atI_last _ _
            refine ⟨_, rfl, _, rfl, D, _, _, _, rfl, rfl, .of d5, la, ?_⟩
            refine ⟨_, rfl, _, _, rfl, rfl, _, rfl, ?_⟩
            by_cases hlt : most < c + 1
            · refine iteY (decide_eq_true (by omega)) ?_
              refine ⟨_, rfl, _, rfl, D, _, _, _, rfl, rfl, .of d5, la, ?_⟩
              refine ⟨_, rfl, _, _, rfl, ?_⟩
              exact ⟨c + 1, j, _, _, _, rfl, s5, by rw [← hc]; exact best_yes best (by rw [hc]; exact hlt)⟩
            · refine iteN (decide_eq_false (by omega)) ?_
              exact ⟨most, wh, _, _, _, rfl, s5, best_no best (by rw [hc]; omega)⟩
      · rintro σ H3 ⟨most, wh, v6, v7, v8, rfl, s3, best⟩
        rw [hm] at best
        have hB3 := s3 _ _ hB20
        refine ⟨_, rfl, .inl ⟨rfl, _, .of hB3⟩, ?_⟩
        refine ⟨_, rfl, _, rfl, (by show 2 ≤ sizeLine; decide), fun p zp => ?_⟩
        obtain ⟨H6, e6, S6, A6⟩ := alloc (o := .tup [.int (most : Int), .int (wh : Int)]) zp
        rw [e6]
        have hB6 := S6 _ _ hB3
        have xl : xs.length < sizeLine := by rw [hall.length, hz]; omega
        refine ⟨B, _, _, rfl, rfl, hB6, xl, ?_⟩
        have s6 : Same H2 H6 := (S20.trans s3).trans S6
        have all6 : All2 (PairAt (upd H6 B (.lst (xs ++ [.ref p])))) (xs ++ [.ref p]) (zs ++ [(most, wh)]) := All2.append (hall.mono fun _ _ _ r => (r.keep s6).put hB6) (.cons (PairAt.put (z := (most, wh)) ⟨p, rfl, A6⟩ hB6) .nil)
        refine ⟨_, _, _, _, _, _, _, _, rfl, fun b o e => ?_, upd_same, all6, by rw [List.length_append, hzl]; rfl, stat_snoc hst (z := (most, wh)) (by rw [hzl]; exact best_stat best)⟩
        rw [upd_ne (ne_of_none e nB)]
        exact s6 _ _ (s2 _ _ e)
    · rintro σ H4 ⟨v3, v4, v5, v6, v7, v8, xs, zs, rfl, s4, hB, hall, hzl, hst⟩
      rw [hn] at hzl
      exact ⟨_, rfl, k B xs zs H4 nB s4 hB hall ⟨hzl, hst⟩⟩
theorem ok_FAR {f : Addr} {fd : FuncData} (F : Fun K "_law_far_due" "_law_far_due" sFarDue f fd) (T : TxtB K mg) : FnOk P w K mg base CX0 1 f fd ["_law_text_here", "_law_other"] spTell := by
  refine F.ok scFAR (fun vs H Q E h => ?_) (fun cdv A outer s H vs Q E hr h => ?_)
  · obtain ⟨t, u, rfl, _⟩ := h
    rfl
  · obtain ⟨t, u, rfl, two, k⟩ := h
    have nd := scFAR.nd
    have hz : sizeLine = 2 ^ 24 := sizeLine_eq
    have l1 := two.l1
    have l2 := two.l2
    have ul : (strL u).length = u.length := strL_len u
    refine ⟨_, (pss_cons (ps_set (i := 2) nd rfl (Or.inl rfl) (pe_lst pa_nil))
      (pss_cons (ps_for PassesOwn.never rfl (pi_range1 (by rfl) T.range (pa_cons (pe_callB call_len_str (by rfl) T.len (by decide +kernel) (pa_cons (pv 1) pa_nil)) pa_nil)) (pg_name (i := 3) nd rfl (Or.inl rfl)) (pss_cons (ps_par (i := 4) (j := 5) (by rfl) nd rfl rfl (by decide) rfl rfl (pa_cons pe_int (pa_cons (pe_op op_sub (pe_callB call_len_str (by rfl) T.len (by decide +kernel) (pa_cons (pv 1) pa_nil)) (pv 3)) pa_nil)) (by rfl))
      (pss_cons (ps_for PassesOwn.never rfl (pi_range1 (by rfl) T.range (pa_cons pe_int pa_nil)) (pg_name (i := 6) nd rfl (Or.inl rfl)) (pss_cons (ps_set (i := 7) nd rfl (Or.inl rfl) (pe_op op_fdiv (pe_op op_add (pe_op op_add (pv 4) (pv 5)) pe_int) pe_int))
      (pss_one (ps_asg (pe_ifExp (pt_cmpR op_in_str (pe_slice sl_str (pv 1) (po_some (pv 3)) (po_some (pe_op op_add (pv 3) (pv 7)))) (pv 0) (by rfl)) (pe_tup (pa_cons (pv 7) (pa_cons (pv 5) pa_nil))) (pe_tup (pa_cons (pv 4) (pa_cons (pe_op op_sub (pv 7) pe_int) pa_nil)))) (pg_tup rfl (pgs_cons (pg_name (i := 4) nd rfl (Or.inl rfl)) (pgs_cons (pg_name (i := 5) nd rfl (Or.inl rfl)) pgs_nil)))))))
      (pss_one (ps_expr (pe_bm PySem.F.plainAttrs_list PySem.F.slot_list_append PySem.F.type_list_append mt_append (pv 2) (pa_cons (pe_tup (pa_cons (pv 4) (pa_cons (pe_m1 PySem.F.slot_str_find PySem.F.type_str_find mt_find (pv 0) (pe_slice sl_str (pv 1) (po_some (pv 3)) (po_some (pe_op op_add (pv 3) (pv 4))))) pa_nil))) pa_nil)))))))
      (pss_one (ps_ret (pv 2))))), ?_⟩
    refine ⟨(by show 0 ≤ sizeLine; omega), fun B nB => ?_⟩
    obtain ⟨H1, e1, S1, A1⟩ := alloc (o := .lst []) nB
    rw [e1]
    refine ⟨_, rfl, strL u, rfl, (by rw [ul, hz]; omega), ?_⟩
    refine ⟨_, rfl, (by rw [ul]; omega), (by rw [ul]; omega), ?_⟩
    have hn : (((strL u).length : Nat) : Int).toNat = u.length := by rw [ul]; omega
    refine for_range (lo := 0) (n := (((strL u).length : Nat) : Int).toNat) (fun i σ H' => ∃ (v3 v4 v5 v6 v7 : Option V) (xs : List V) (zs : List (Nat × Nat)), σ = [some (.str (strL t)), some (.str (strL u)), some (.ref B), v3, v4, v5, v6, v7] ∧ Same H H' ∧ H' B = some (.lst xs) ∧ All2 (PairAt H') xs zs ∧ zs.length = i ∧ (∀ p z, zs[p]? = some z → StatAt t (u.drop p) z)) ⟨_, _, _, _, _, [], [], rfl, S1, A1, .nil, rfl, statL_nil t u⟩ ?_ ?_
    · rintro i σ H2 hi ⟨v3, v4, v5, v6, v7, xs, zs, rfl, s2, hB, hall, hzl, hst⟩
      rw [hn] at hi
      rw [Int.zero_add]
      have ld : (u.drop i).length = u.length - i := List.length_drop
      have cutE : ∀ m : Nat, cutS (strL u) (some (i : Int)) (some ((i + m : Nat) : Int)) = strL ((u.drop i).take m) := fun m => by
        rw [cutN, List.drop_take, Nat.add_sub_cancel_left]
      refine ⟨_, rfl, strL u, rfl, (by rw [ul, hz]; omega), _, rfl, _, _, rfl, rfl, _, _, rfl, ?_⟩
      have eh : ((((strL u).length : Nat) : Int) - (i : Int)) = ((u.length - i : Nat) : Int) := by rw [ul]; omega
      dsimp only
      rw [eh]
      refine ⟨_, rfl, by decide, by decide, ?_⟩
      refine for_range (lo := 0) (n := 10) (fun j σ H' => ∃ (lo hi : Nat) (v6 v7 : Option V), σ = [some (.str (strL t)), some (.str (strL u)), some (.ref B), some (.int (i : Int)), some (.int (lo : Int)), some (.int (hi : Int)), v6, v7] ∧ Same H2 H' ∧ lo ≤ hi ∧ hi ≤ u.length - i ∧ (hi - lo) * 2 ^ j ≤ 310 ∧ Part t ((u.drop i).take lo) ∧ ∀ m, m ≤ (u.drop i).length → Part t ((u.drop i).take m) → m ≤ hi) ⟨0, u.length - i, _, _, rfl, .refl _, by omega, by omega, by omega, by rw [List.take_zero]; exact ⟨0, (part_nil t).1⟩, fun m hm _ => by omega⟩ ?_ ?_
      · rintro j σ H3 hj ⟨lo, hi', v6, v7, rfl, s3, h1, h2, h3, h4, h5⟩
        rw [Int.zero_add]
        refine ⟨_, rfl, _, rfl, _, _, rfl, rfl, _, _, rfl, rfl, _, _, rfl, rfl, ⟨by decide, by decide⟩, ?_⟩
        obtain ⟨m, hm⟩ : ∃ m, (lo + hi' + 1) / 2 = m := ⟨_, rfl⟩
        have em : ((lo : Int) + (hi' : Int) + 1) / 2 = (m : Int) := by omega
        dsimp only
        rw [em]
        refine ⟨_, rfl, _, rfl, _, rfl, _, rfl, _, rfl, _, _, rfl, rfl, _, rfl, _, rfl, (by rw [ul, hz]; omega), _, rfl, _, _, rfl, rfl, _, rfl, ?_⟩
        have e1 : ((i : Int) + (m : Int)) = ((i + m : Nat) : Int) := by omega
        dsimp only
        rw [e1, cutE]
        have half : ∀ x : Nat, x * 2 ≤ hi' - lo → x * 2 ^ (j + 1) ≤ 310 := fun x hx => by
          rw [Nat.pow_succ, Nat.mul_comm (2 ^ j) 2, ← Nat.mul_assoc]
          exact Nat.le_trans (Nat.mul_le_mul_right _ hx) h3
        by_cases h : Part t ((u.drop i).take m)
        · refine iteY ((in_part t _).mpr h) ?_
          refine ⟨_, rfl, _, rfl, (by show 2 ≤ sizeLine; decide), fun p zp => ?_⟩
          obtain ⟨H4, e4, S4, A4⟩ := alloc (o := .tup [.int (m : Int), .int (hi' : Int)]) zp
          rw [e4]
          refine ⟨p, _, rfl, .of A4, rfl, _, _, rfl, _, _, rfl, rfl, ?_⟩
          exact ⟨m, hi', _, _, rfl, s3.trans S4, by omega, h2, half _ (by omega), h, h5⟩
        · refine iteN (by
            cases e : (!(Builtin.Str.occurrences (strL t) (strL ((u.drop i).take m)) 0 (strL t).length 1).isEmpty) with
            | false => rfl
            | true => exact absurd ((in_part t _).mp e) h) ?_
          have m0 : lo < m := by
            by_cases z : m ≤ lo
            · have e : lo = m := by omega
              rw [e] at h4
              exact absurd h4 h
            · omega
          refine ⟨_, rfl, _, rfl, _, _, rfl, rfl, (by show 2 ≤ sizeLine; decide), fun p zp => ?_⟩
          have e5 : ((m : Int) - 1) = ((m - 1 : Nat) : Int) := by omega
          dsimp only
          rw [e5]
          obtain ⟨H4, e4, S4, A4⟩ := alloc (o := .tup [.int (lo : Int), .int ((m - 1 : Nat) : Int)]) zp
          rw [e4]
          refine ⟨p, _, rfl, .of A4, rfl, _, _, rfl, _, _, rfl, rfl, ?_⟩
          refine ⟨lo, m - 1, _, _, rfl, s3.trans S4, by omega, by omega, half _ (by omega), h4, fun x hx px => ?_⟩
          by_cases z : x ≤ m - 1
          · exact z
          · refine absurd ?_ h
            have := px.take m
            rw [List.take_take, Nat.min_eq_left (by omega)] at this
            exact this
      · rintro σ H3 ⟨lo, hi', v6, v7, rfl, s3, h1, h2, h3, h4, h5⟩
        have lg : IsLng t (u.drop i) lo := half_lng h1 (by omega) h4 h5 (by omega)
        obtain ⟨fi, ef, hf⟩ := find_first lg.2.1
        have hB3 := s3 _ _ hB
        refine ⟨_, rfl, .inl ⟨rfl, _, .of hB3⟩, ?_⟩
        refine ⟨_, rfl, _, rfl, ⟨_, rfl⟩, _, rfl, _, rfl, _, rfl, _, rfl, _, rfl, _, _, rfl, rfl, _, rfl, _, rfl, (by rw [ul, hz]; omega), _, _, rfl, rfl, (by show 2 ≤ sizeLine; decide), fun p zp => ?_⟩
        have e1 : ((i : Int) + (lo : Int)) = ((i + lo : Nat) : Int) := by omega
        dsimp only
        rw [e1, cutE, ef]
        obtain ⟨H6, e6, S6, A6⟩ := alloc (o := .tup [.int (lo : Int), .int (fi : Int)]) zp
        rw [e6]
        have hB6 := S6 _ _ hB3
        have xl : xs.length < sizeLine := by rw [hall.length, hz]; omega
        refine ⟨B, _, _, rfl, rfl, hB6, xl, ?_⟩
        have s6 : Same H2 H6 := s3.trans S6
        have all6 : All2 (PairAt (upd H6 B (.lst (xs ++ [.ref p])))) (xs ++ [.ref p]) (zs ++ [(lo, fi)]) := All2.append (hall.mono fun _ _ _ r => (r.keep s6).put hB6) (.cons (PairAt.put (z := (lo, fi)) ⟨p, rfl, A6⟩ hB6) .nil)
        refine ⟨_, _, _, _, _, _, _, rfl, fun b o e => ?_, upd_same, all6, by rw [List.length_append, hzl]; rfl, stat_snoc hst (z := (lo, fi)) (by rw [hzl]; exact ⟨lg, hf⟩)⟩
        rw [upd_ne (ne_of_none e nB)]
        exact s6 _ _ (s2 _ _ e)
    · rintro σ H4 ⟨v3, v4, v5, v6, v7, xs, zs, rfl, s4, hB, hall, hzl, hst⟩
      rw [hn] at hzl
      exact ⟨_, rfl, k B xs zs H4 nB s4 hB hall ⟨hzl, hst⟩⟩
end
end T46

set_option Elab.async false
set_option linter.all false
set_option maxRecDepth 100000
set_option maxHeartbeats 4000000
/-! RangeKit: tuple(range(a, b, c)); set(t) of a tuple of ints as a value. -/
namespace L2
open PySem PySem.Spec PyProof.Rows
section
variable {X : Cx} {a b c : Expr} {ta : TA}
/-- n ints from i on, c from one to the next -/
def rgC (i c : Int) (n : Nat) : List Int := (List.range n).map fun k => i + (k : Nat) * c
def tTupRg3 (ta : TA) : TE := fun σ H Q => ta σ H fun vs H1 => ∃ (i j c : Int) (n : Nat), vs = [.int i, .int j, .int c] ∧ RgC i j c n ∧ n ≤ 2 ^ 24 ∧ ∀ q, H1 q = none → Q (.ref q) (upd H1 q (.tup ((rgC i c n).map V.int)))
theorem pe_tupRg3 {p pos p2 pos2 : Pos} (hc : X.calm = true) (hg : Gl X "tuple") (hm : X.mg "tuple" = none) (hg2 : Gl X "range") (hm2 : X.mg "range" = none) (ha : PA X [a, b, c] ta)
    (hs : starEach [a, b, c] X.env = (false, eval a X.env) :: starEach [b, c] X.env := by rfl) (hpl : (backTo pos2 (starEach [b, c] X.env)).any (·.1) = false := by rfl)
    (na : starEach [.Call (.Name "range" p2) [a, b, c] [] pos2] X.env = (false, eval (.Call (.Name "range" p2) [a, b, c] [] pos2) X.env) :: starEach [] X.env := by rfl) :
    PE X (.Call (.Name "tuple" p) [.Call (.Name "range" p2) [a, b, c] [] pos2] [] pos) (tTupRg3 ta) := by
  refine ⟨fun pins s σ H Q I h => ?_⟩
  refine Call_ (ld_blt I hg hm boot_tuple (PyProof.Rows.callWith_type1 (args_cons (Call_ (ld_blt I hg2 hm2 boot_range (PyProof.Rows.callWith_type1 (thn (ha.run pos2 pins s σ H _ I h) fun us s1 ⟨vs, H1, I1, r1, q1⟩ => ?_) hs hpl))) na) na))
  obtain ⟨i, j, k, n, rfl, ⟨hc0, hcn, hsm, hsz⟩, hn, q⟩ := q1
  cases r1 with
  | cons ri r2 =>
  cases r2 with
  | cons rj r3 =>
  cases r3 with
  | cons rk r4 =>
  cases r4
  obtain ⟨t1, rfl⟩ := ri
  obtain ⟨t2, rfl⟩ := rj
  obtain ⟨t3, rfl⟩ := rk
  refine call_range_3 hc0 (args_nil ?_) (hp := Or.inl ?_)
  · have hr : IsRange (s1.heap.push { cls := .type "range", data := .fields #[.int i t1, .int j t2, .int k t3] }) s1.heap.objs.size i j k t1 t2 t3 := IsRange.new _ _ _ _ _ _ _
    have I2 : Inv X pins σ H1 { s1 with heap := s1.heap.push { cls := .type "range", data := .fields #[.int i t1, .int j t2, .int k t3] } } := I1.kept (t' := s1.toks) fun b u e => Heap.get?_push_of_some _ e
    refine call_tuple_range (s := { s1 with heap := s1.heap.push { cls := .type "range", data := .fields #[.int i t1, .int j t2, .int k t3] } }) (n := n) (I2.ok.hd hc) hr hsm hsz hn fun h' tk acc hk hi => ?_
    have I3 : Inv X pins σ H1 { s1 with heap := h', toks := tk } := I2.kept hk
    refine ⟨.ref h'.objs.size, upd H1 h'.objs.size (.tup ((rgC i k n).map V.int)), I3.laid (t' := tk) (fun c o e => Heap.get?_push_of_some _ e) (Nat.le_refl _) (show ObjOk X.prog X.w _ _ _ (.tup ((rgC i k n).map V.int)) from ⟨?_, acc.toList, ?_, ?_⟩), rfl, q _ (I3.hok.fresh (Nat.le_refl _))⟩
    · unfold rgC
      rw [List.length_map, List.length_map, List.length_range, sizeLine_eq]
      omega
    · have e : acc.toList.length = n := by rw [Array.length_toList]; exact hi.1
      unfold rgC
      rw [List.map_map, ← e]
      refine vals_of_get acc.toList _ fun m u hj => ?_
      obtain ⟨t, rfl⟩ := hi.2 m u (by rw [← hj, Array.getElem?_toList])
      exact ⟨t, rfl⟩
    · rw [Array.toArray_toList]
      exact IsTup.new _ _
  · exact PyProof.noPylong_small (by omega)
/-- set(t) of a tuple of ints -/
def rSetI (K : PySem.W.Frag) (w : World) : List V → Hp → VK → Prop := fun xs H Q => ∃ (p : Addr) (ns : List Int), xs = [.ref p] ∧ SqT K H p (ns.map V.int) ∧ ns.length ≤ 1000 ∧
  ∀ (q : Addr) (m : Nat), m ≤ ns.length → H q = none → Q (.ref q) (upd H q (SetO w q (fun j => decide (j ∈ ns)) m))
theorem cr_setI (hc : X.calm = true) : CallR X (.type "set") (rSetI X.K X.w) := by
  intro pins s σ H xs us Q I r h
  obtain ⟨p0, ns, rfl, hq, hl, q⟩ := h
  obtain ⟨u, rfl, ru⟩ := vals1 r
  obtain rfl : u = Value.ref p0 := ru
  obtain ⟨its, rv, pt, hz⟩ := I.tuple hq
  have hi : IntsAre its.toArray.toList ns := ints_of_vals rv
  refine call_set_tupI ns (I.ok.hd hc) (show s.heap.IsTuple p0 its.toArray from pt) hi (by unfold scanBound; omega) fun h' tk c R1 hcn k => ?_
  exact ⟨.ref _, upd H s.heap.objs.size (SetO X.w s.heap.objs.size (fun j => decide (j ∈ ns)) c), I.laid (t' := tk) k (Nat.le_refl _) (setO_new R1), rfl, q _ _ hcn (I.hok.fresh (Nat.le_refl _))⟩
end
end L2
namespace L2
open PySem PySem.Spec PyProof.Rows
theorem RgC.up {i j c : Int} (hc : 0 < c) (hc2 : c < 1073741824) (h1 : 0 ≤ i) (h2 : i ≤ 1073741824) (h3 : 0 ≤ j) (h4 : j ≤ 1073741824) : RgC i j c (Builtin.Range.rangeSize i j c).toNat := by
  refine ⟨by omega, by omega, ?_, PyProof.Rows.rangeSize_toNat i j c⟩
  have hn := PyProof.Rows.rangeSize_toNat i j c
  have hl := PyProof.Rows.rangeSize_toNat_le i j c
  unfold Builtin.Range.small
  simp only [Builtin.Range.rangeFitsLong, Bool.and_eq_true, Bool.or_eq_true, decide_eq_true_eq, beq_iff_eq, show c > 0 from hc, if_true]
  omega
/-- zip(t, u) of tuples -/
theorem walk_zipT {K : PySem.W.Frag} {a b : Addr} {xs ys : List V} {n : Nat} (hn : n = min xs.length ys.length) : Walk (RZ.ItzT K a b) n (fun H => SqT K H a xs ∧ SqT K H b ys) (YPair (fun i => xs[i]?) (fun i => ys[i]?)) := by
  subst hn
  refine ⟨fun i _ hi q => ?_, fun _ q => ⟨xs, ys, q.1, q.2, by omega⟩, fun i H v H' _ q y => ?_⟩
  · have h1 : i < xs.length := by omega
    have h2 : i < ys.length := by omega
    exact ⟨xs, ys, xs[i], ys[i], q.1, q.2, by simp [h1], by simp [h2]⟩
  · obtain ⟨T, x, z, h1, h2, h3, h4, h5⟩ := y
    exact ⟨T, x, z, h1, h2, h3, h4 xs q.1, h5 ys q.2⟩
end L2

set_option Elab.async false
set_option linter.all false
set_option maxRecDepth 100000
set_option maxHeartbeats 4000000
/-! LRgKit: list(range(a, b, c)). -/
namespace L2
open PySem PySem.Spec PyProof.Rows
section
variable {X : Cx} {a b c : Expr} {ta : TA}
def tLstRg3 (ta : TA) : TE := fun σ H Q => ta σ H fun vs H1 => ∃ (i j c : Int) (n : Nat), vs = [.int i, .int j, .int c] ∧ RgC i j c n ∧ n ≤ 2 ^ 24 ∧ ∀ q, H1 q = none → Q (.ref q) (upd H1 q (.lst ((rgC i c n).map V.int)))
theorem pe_listRg3 {p pos p2 pos2 : Pos} (hc : X.calm = true) (hg : Gl X "list") (hm : X.mg "list" = none) (hg2 : Gl X "range") (hm2 : X.mg "range" = none) (ha : PA X [a, b, c] ta)
    (hs : starEach [a, b, c] X.env = (false, eval a X.env) :: starEach [b, c] X.env := by rfl) (hpl : (backTo pos2 (starEach [b, c] X.env)).any (·.1) = false := by rfl)
    (na : starEach [.Call (.Name "range" p2) [a, b, c] [] pos2] X.env = (false, eval (.Call (.Name "range" p2) [a, b, c] [] pos2) X.env) :: starEach [] X.env := by rfl) :
    PE X (.Call (.Name "list" p) [.Call (.Name "range" p2) [a, b, c] [] pos2] [] pos) (tLstRg3 ta) := by
  refine ⟨fun pins s σ H Q I h => ?_⟩
  refine Call_ (ld_blt I hg hm boot_list (PyProof.Rows.callWith_type1 (args_cons (Call_ (ld_blt I hg2 hm2 boot_range (PyProof.Rows.callWith_type1 (thn (ha.run pos2 pins s σ H _ I h) fun us s1 ⟨vs, H1, I1, r1, q1⟩ => ?_) hs hpl))) na) na))
  obtain ⟨i, j, k, n, rfl, ⟨hc0, hcn, hsm, hsz⟩, hn, q⟩ := q1
  cases r1 with
  | cons ri r2 =>
  cases r2 with
  | cons rj r3 =>
  cases r3 with
  | cons rk r4 =>
  cases r4
  obtain ⟨t1, rfl⟩ := ri
  obtain ⟨t2, rfl⟩ := rj
  obtain ⟨t3, rfl⟩ := rk
  refine call_range_3 hc0 (args_nil ?_) (hp := Or.inl ?_)
  · have hr : IsRange (s1.heap.push { cls := .type "range", data := .fields #[.int i t1, .int j t2, .int k t3] }) s1.heap.objs.size i j k t1 t2 t3 := IsRange.new _ _ _ _ _ _ _
    have I2 : Inv X pins σ H1 { s1 with heap := s1.heap.push { cls := .type "range", data := .fields #[.int i t1, .int j t2, .int k t3] } } := I1.kept (t' := s1.toks) fun b u e => Heap.get?_push_of_some _ e
    refine call_list_range (s := { s1 with heap := s1.heap.push { cls := .type "range", data := .fields #[.int i t1, .int j t2, .int k t3] } }) (n := n) (I2.ok.hd hc) hr hsm hsz hn fun h' tk acc c' hk e' hi => ?_
    refine ⟨.ref (s1.heap.push { cls := .type "range", data := .fields #[.int i t1, .int j t2, .int k t3] }).objs.size, upd H1 _ (.lst ((rgC i k n).map V.int)), I2.laid hk (Nat.le_refl _) (show ObjOk X.prog X.w _ _ _ (.lst ((rgC i k n).map V.int)) from ⟨?_, acc.toList, c', ?_, ?_⟩), rfl, q _ (I2.hok.fresh (Nat.le_refl _))⟩
    · unfold rgC
      rw [List.length_map, List.length_map, List.length_range, sizeLine_eq]
      omega
    · have e : acc.toList.length = n := by rw [Array.length_toList]; exact hi.1
      unfold rgC
      rw [List.map_map, ← e]
      refine vals_of_get acc.toList _ fun m u hj => ?_
      obtain ⟨t, rfl⟩ := hi.2 m u (by rw [← hj, Array.getElem?_toList])
      exact ⟨t, rfl⟩
    · rw [Array.toArray_toList]
      exact e'
  · exact PyProof.noPylong_small (by omega)
end
theorem RgC.down {i j : Int} (h1 : -(2 ^ 30) ≤ j) (h2 : j ≤ i) (h3 : i ≤ 2 ^ 30) : RgC i j (-1) (i - j).toNat := RgC.neg (by omega) (by omega) (by omega) (by omega)
end L2

set_option Elab.async false
set_option linter.all false
set_option maxRecDepth 100000
set_option maxHeartbeats 4000000
namespace T46
open PySem PySem.Spec PyProof.Rows L2 EK
theorem ix_tupK {X : Cx} {K : PySem.W.Frag} (h : X.K = K := by rfl) : IxR X (rIxT K) := by subst h; exact ix_tup
def spPieces : Sp := fun vs H Q _ => ∃ (a : Addr) (n : Int) (t : List Nat) (m : Nat), vs = [.ref a, .str (strL t), .int (m : Int)] ∧ UrnAt H a n ∧ n ≤ 900000 ∧ t.length ≤ 300 ∧ isT (strL t) = true ∧ 0 < m ∧ m ≤ 300 ∧ ∀ u H', u.length ≤ 300 → isT (strL u) = true → UrnAt H' a (n + 100) → KeepB a H H' → Q (.str (strL u)) H'
theorem sm_pair {K : PySem.W.Frag} {H : Hp} {x y : V} {z : Nat × Nat} (h : PairAt H x z) (g : PairAt H y z) : Sm K H 60 x y := by
  obtain ⟨a, rfl, ha⟩ := h
  obtain ⟨b, rfl, hb⟩ := g
  refine .tp (n := 59) (.of ha) (.of hb) rfl fun i x y e1 e2 => ?_
  rw [e1] at e2
  cases e2
  match i, e1 with
  | 0, e1 => cases e1; exact .rf _ fun b z => by cases z
  | 1, e1 => cases e1; exact .rf _ fun b z => by cases z
  | i + 2, e1 => simp at e1
theorem sm_pairs {K : PySem.W.Frag} {H : Hp} {p q : Addr} {xs ys : List V} {zs : List (Nat × Nat)} (hp : H p = some (.lst xs)) (hq : H q = some (.lst ys)) (h : All2 (PairAt H) xs zs) (g : All2 (PairAt H) ys zs) : SmT K H (.ref p) (.ref q) := by
  refine .ls (.of hp) (.of hq) (h.length.trans g.length.symm) fun i x y e1 e2 => ?_
  obtain ⟨z, hz, ax⟩ := h.get e1
  obtain ⟨z2, hz2, ay⟩ := g.get e2
  rw [hz] at hz2
  cases hz2
  exact sm_pair ax ay
def lets4 : List Str := ["", "a", "z", "b"]
theorem good4 : ∀ L ∈ lets4, (decide (L.cps.toList.length ≤ 1) && L.cps.toList.all fun c => decide (c ∈ letS.cps.toList)) = true := by decide +kernel
structure TxtR (K : PySem.W.Frag) (mg : Str → Option Value) : Prop where
  zip : mg "zip" = none
section
variable {P : Program} {w : World} {K : PySem.W.Frag} {mg : Str → Option Value} {base : Heap}
theorem scPIE : FnScope ["_law_well_here", "_law_text_here", "_law_most", "_law_found", "_law_turn", "_law_at"] ["_law_well_here", "_law_text_here", "_law_most"] (defScope sPieces) := ⟨rfl, rfl, rfl, by decide +kernel, rfl, by decide +kernel, by decide +kernel⟩
theorem scRIG : FnScope ["_law_text_here", "_law_other", "_law_told", "_law_due_here", "_law_one", "_law_more"] ["_law_text_here", "_law_other"] (defScope sRight) := ⟨rfl, rfl, rfl, by decide +kernel, rfl, by decide +kernel, by decide +kernel⟩
theorem ok_PIE {f fP fI : Addr} {fd fdP fdI : FuncData} (F : Fun K "_law_pieces" "_law_pieces" sPieces f fd) (T : TxtB K mg)
    (GP : FnOk P w K mg base CX0 1 fP fdP ["_law_well_here", "_law_bound"] spPull) (gP : mg "_law_draw" = some (.ref fP)) (kP : PySem.W.keepIn K (.ref fP) = true) (bP : Binds K fdP ["_law_well_here", "_law_bound"] [])
    (GI : FnOk P w K mg base CX0 2 fI fdI ["_law_well_here", "_law_some"] spPick) (gI : mg "_law_pick" = some (.ref fI)) (kI : PySem.W.keepIn K (.ref fI) = true) (bI : Binds K fdI ["_law_well_here", "_law_some"] []) :
    FnOk P w K mg base CX0 3 f fd ["_law_well_here", "_law_text_here", "_law_most"] spPieces := by
  refine F.ok scPIE (fun vs H Q E h => ?_) (fun cdv A outer s H vs Q E hr h => ?_)
  · obtain ⟨a, n, t, m, rfl, _⟩ := h
    rfl
  · obtain ⟨a, n, t, m, rfl, hw, hn, hl, hb, m0, m1, k⟩ := h
    have nd := scPIE.nd
    have hr2 : Room 2 _ := hr
    have hr1 : Room 1 _ := hr.mono (by decide)
    have hz : sizeLine = 2 ^ 24 := sizeLine_eq
    have tl : (strL t).length = t.length := strL_len t
    refine ⟨_, (pss_cons (ps_set (i := 3) nd rfl (Or.inl rfl) pe_str)
      (pss_cons (ps_for PassesOwn.never rfl (pi_range1 (by rfl) T.range (pa_cons (pe_call GP hr1 rfl gP kP bP .nil pass0 (pa_cons (pv 0) (pa_cons pe_int pa_nil))) pa_nil)) (pg_name (i := 4) nd rfl (Or.inl rfl)) (pss_cons (ps_set (i := 5) nd rfl (Or.inl rfl) (pe_call GP hr1 rfl gP kP bP .nil pass0 (pa_cons (pv 0) (pa_cons (pe_op op_add (pe_callB call_len_str (by rfl) T.len (by decide +kernel) (pa_cons (pv 1) pa_nil)) pe_int) pa_nil))))
      (pss_one (ps_set (i := 3) nd rfl (Or.inl rfl) (pe_op op_add_str (pe_op op_add_str (pv 3) (pe_slice sl_str (pv 1) (po_some (pv 5)) (po_some (pe_op op_add (pv 5) (pe_call GP hr1 rfl gP kP bP .nil pass0 (pa_cons (pv 0) (pa_cons (pv 2) pa_nil))))))) (pe_call GI hr2 rfl gI kI bI .nil pass0 (pa_cons (pv 0) (pa_cons (pe_lst (pa_cons pe_str (pa_cons pe_str (pa_cons pe_str (pa_cons pe_str pa_nil))))) pa_nil))))))))
      (pss_one (ps_ret (pe_slice sl_str (pv 3) po_none (po_some pe_int)))))), ?_⟩
    refine ⟨_, rfl, a, _, _, rfl, hw, by omega, by decide, by decide, fun d1 H1 h01 h1 hw1 kb1 => ?_⟩
    refine ⟨_, rfl, by omega, by omega, ?_⟩
    refine for_range (lo := 0) (n := d1.toNat) (fun i σ H' => ∃ (u : List Nat) (v4 v5 : Option V), σ = [some (.ref a), some (.str (strL t)), some (.int (m : Int)), some (.str (strL u)), v4, v5] ∧ UrnAt H' a (n + 1 + (3 * i : Nat)) ∧ KeepB a H H' ∧ u.length ≤ 301 * i ∧ ∀ c ∈ u, c ∈ letS.cps.toList) ⟨[], _, _, rfl, hw1.mono (by omega), kb1, by show 0 ≤ _; omega, fun c hc => by cases hc⟩ ?_ ?_
    · rintro i σ H2 hi ⟨u, v4, v5, rfl, hw2, kb2, hul, hum⟩
      rw [Int.zero_add]
      refine ⟨_, rfl, _, rfl, strL t, rfl, (by rw [tl, hz]; omega), _, _, rfl, rfl, a, _, _, rfl, hw2, by omega, by omega, by rw [tl]; omega, fun d2 H3 h02 h2 hw3 kb3 => ?_⟩
      rw [tl] at h2
      obtain ⟨n2, rfl⟩ : ∃ j : Nat, d2 = (j : Int) := ⟨d2.toNat, by omega⟩
      refine ⟨_, rfl, _, rfl, _, rfl, _, rfl, _, rfl, _, rfl, _, rfl, a, _, _, rfl, hw3, by omega, by omega, by omega, fun d3 H4 h03 h3 hw4 kb4 => ?_⟩
      obtain ⟨n3, rfl⟩ : ∃ j : Nat, d3 = (j : Int) := ⟨d3.toNat, by omega⟩
      refine ⟨_, _, rfl, rfl, _, rfl, ?_⟩
      have e1 : ((n2 : Int) + (n3 : Int)) = ((n2 + n3 : Nat) : Int) := by omega
      dsimp only
      rw [e1]
      refine ⟨_, rfl, (by rw [tl, hz]; omega), ?_⟩
      rw [cutN]
      obtain ⟨x, hx⟩ : ∃ x, (t.take (n2 + n3)).drop n2 = x := ⟨_, rfl⟩
      rw [hx]
      have xl : x.length ≤ 300 := by rw [← hx, List.length_drop, List.length_take]; omega
      have xm : ∀ c ∈ x, c ∈ letS.cps.toList := fun c hc => isT_mem hb c (List.mem_of_mem_take (List.mem_of_mem_drop (by rw [hx]; exact hc)))
      refine ⟨_, _, rfl, rfl, (by rw [strL_len, strL_len, hz]; omega), ?_⟩
      rw [strL_add]
      refine ⟨_, rfl, (by show 4 ≤ sizeLine; decide), fun p4 z4 => ?_⟩
      obtain ⟨H5, e5, S5, A5⟩ := alloc (o := .lst (lets4.map V.str)) z4
      have e5' : upd H4 p4 (.lst [V.str "", V.str "a", V.str "z", V.str "b"]) = H5 := e5
      rw [e5']
      have pa : p4 ≠ a := fun e => by
        obtain ⟨_, _, _, e2, _⟩ := hw4
        rw [e, e2] at z4
        cases z4
      refine ⟨a, _, _, rfl, hw4.keep (S5 a), by omega, .inl ⟨p4, _, rfl, A5, pa, (by decide), (by decide), fun y H6 hy hw6 kb6 => ?_⟩⟩
      obtain ⟨L, hL, rfl⟩ := List.mem_map.mp (show y ∈ lets4.map V.str from hy)
      have g4 := good4 L hL
      rw [Bool.and_eq_true, decide_eq_true_eq, List.all_eq_true] at g4
      rw [strL_of L]
      obtain ⟨y, hy⟩ : ∃ y, L.cps.toList = y := ⟨_, rfl⟩
      rw [hy] at g4 ⊢
      refine ⟨_, _, rfl, rfl, (by rw [strL_len, strL_len, List.length_append, hz]; omega), ?_⟩
      rw [strL_add]
      refine ⟨u ++ x ++ y, _, _, rfl, hw6.mono (by omega), ((kb2.trans kb3).trans kb4).trans ((KeepB.of S5).trans kb6), ?_, fun c hc => ?_⟩
      · rw [List.length_append, List.length_append]
        omega
      · rcases List.mem_append.mp hc with hc | hc
        · rcases List.mem_append.mp hc with hc | hc
          · exact hum c hc
          · exact xm c hc
        · exact of_decide_eq_true (g4.2 c hc)
    · rintro σ H2 ⟨u, v4, v5, rfl, hw2, kb2, hul, hum⟩
      refine ⟨_, rfl, _, rfl, strL u, rfl, (by rw [strL_len, hz]; omega), ?_⟩
      rw [show (300 : Int) = ((300 : Nat) : Int) from rfl, takeL]
      exact k _ H2 (by rw [List.length_take]; omega) (isT_of fun c hc => hum c (List.mem_of_mem_take hc)) (hw2.mono (by omega)) kb2
theorem ok_RIG {f fS fD : Addr} {fd fdS fdD : FuncData} (F : Fun K "_law_right" "_law_right" sRight f fd) (T : TxtR K mg)
    (GS : FnOk P w K mg base CX0 3 fS fdS ["text", "other"] spTell) (gS : mg "statistics" = some (.ref fS)) (kS : PySem.W.keepIn K (.ref fS) = true) (bS : Binds K fdS ["text", "other"] [])
    (GD : FnOk P w K mg base CX0 1 fD fdD ["_law_text_here", "_law_other"] spTell) (gD : mg "_law_due" = some (.ref fD)) (kD : PySem.W.keepIn K (.ref fD) = true) (bD : Binds K fdD ["_law_text_here", "_law_other"] []) :
    FnOk P w K mg base CX0 4 f fd ["_law_text_here", "_law_other"] (fun vs H Q _ => ∃ t u : List Nat, vs = [.str (strL t), .str (strL u)] ∧ Two t u ∧ ∀ H', Same H H' → Q (.bl true) H') := by
  refine F.ok scRIG (fun vs H Q E h => ?_) (fun cdv A outer s H vs Q E hr h => ?_)
  · obtain ⟨t, u, rfl, _⟩ := h
    rfl
  · obtain ⟨t, u, rfl, two, k⟩ := h
    have nd := scRIG.nd
    have hz : sizeLine = 2 ^ 24 := sizeLine_eq
    have hrS : Room 3 _ := hr
    have hrD : Room 1 _ := hr.mono (by decide)
    have hu : (A.deeper (PyProof.Rows.envOfC "_law_right" (defScope sRight) s.heap.objs.size f cdv)).units + 64 < cLine := hr.units
    refine ⟨_, (pss_cons (ps_par (i := 2) (j := 3) (by rfl) nd rfl rfl (by decide) rfl rfl (pa_cons (pe_call GS hrS rfl gS kS bS .nil pass0 (pa_cons (pv 0) (pa_cons (pv 1) pa_nil))) (pa_cons (pe_call GD hrD rfl gD kD bD .nil pass0 (pa_cons (pv 0) (pa_cons (pv 1) pa_nil))) pa_nil)) (by rfl))
      (pss_cons (ps_if (PW.pt (pw_or (pt_cmpR (op_neS hu) (pv 2) (pv 3) (nomark _)) (pw_or1 (pt_cmpR (op_neD hu) (pe_lc (own := [("_law_one", 4), ("_law_more", 5)]) (g := gTup _ 2 (gCons (gName 4) (gCons (gName 5) gNil))) rfl nd (pi_zip (by rfl) T.zip (pa_cons (pv 2) (pa_cons (pe_slice sl_list (pv 2) (po_some pe_int) po_none) pa_nil))) (blkOk_by (N := ["_law_text_here", "_law_other", "_law_told", "_law_due_here", "_law_one", "_law_more"]) (sc := defScope sRight) (by decide +kernel)) (fun _ _ _ _ _ => (pg_tup rfl (pgs_cons (pg_name (i := 4) nd rfl (Or.inl rfl)) (pgs_cons (pg_name (i := 5) nd rfl (Or.inl rfl)) pgs_nil)))) (fun _ _ _ _ _ => (pts_one (pt_cmpR op_lt (pe_ix (ix_tupK (K := K)) (pv 5) pe_int (fun _ _ => rfl)) (pe_op op_sub (pe_ix (ix_tupK (K := K)) (pv 4) pe_int (fun _ _ => rfl)) pe_int) (nomark _)))) (fun _ _ _ _ _ => pe_int)) (pe_lst pa_nil) (nomark _))))) (pss_one (ps_ret pe_bl)) pss_nil)
      (pss_cons (ps_expr (pe_bm PySem.F.plainAttrs_list PySem.F.slot_list_append PySem.F.type_list_append mt_append (pv 2) (pa_cons pe_non pa_nil)))
      (pss_one (ps_ret (pe_cmpR (op_eqS hu) (pe_call GS hrS rfl gS kS bS .nil pass0 (pa_cons (pv 0) (pa_cons (pv 1) pa_nil))) (pv 3) (nomark _))))))), ?_⟩
    refine ⟨_, rfl, _, rfl, t, u, rfl, two, fun B xs zs H1 nB s1 hB hall hst => ?_⟩
    refine ⟨_, rfl, _, rfl, t, u, rfl, two, fun C ys zs2 H2 nC s2 hC hall2 hst2 => ?_⟩
    have ez := hst.one hst2
    subst ez
    refine ⟨_, _, rfl, ?_⟩
    have hB2 := s2 _ _ hB
    have hall1 : All2 (PairAt H2) xs zs := hall.mono fun _ _ _ r => r.keep s2
    refine ⟨_, rfl, _, rfl, sm_pairs hB2 hC hall1 hall2, _, rfl, ?_⟩
    refine iteN rfl ?_
    refine ⟨_, rfl, _, rfl, _, rfl, ?_⟩
    dsimp only [tNoPart]
    refine ⟨B, xs, rfl, .of hB2, fun p1 z1 => ?_⟩
    rw [cut_tail1]
    obtain ⟨H3, e3, S3, A3⟩ := alloc (o := .lst (xs.drop 1)) z1
    rw [e3]
    have hB3 := S3 _ _ hB2
    have all3 : All2 (PairAt H3) xs zs := hall1.mono fun _ _ _ r => r.keep S3
    refine ⟨B, p1, xs, xs.drop 1, rfl, .of hB3, .of A3, fun D nD => lc_it (walk_zip (K := K) (a := B) (b := p1) (xs := xs) (ys := xs.drop 1) rfl) (fun i H' => Same H3 H' ∧ H' D = some (.lst [])) ⟨fun b o e => by rw [upd_ne (ne_of_none e nD)]; exact e, upd_same⟩ (fun _ _ _ h => ⟨.of (h.1 _ _ hB3), .of (h.1 _ _ A3)⟩) ?_ ?_⟩
    · rintro i y H4 H4' hi ⟨s4, d4⟩ ⟨T0, x1, y1, rfl, hT, rfl, ex, ey⟩
      obtain ⟨H5, e5, S5, A5⟩ := alloc (o := .tup [x1, y1]) hT
      rw [e5]
      obtain ⟨z, hz1, ax, rfl, hx⟩ := all3.get (show xs[i]? = some x1 from ex)
      have ey' : xs[i + 1]? = some y1 := by
        have : (xs.drop 1)[i]? = some y1 := ey
        rw [List.getElem?_drop, Nat.add_comm] at this
        exact this
      obtain ⟨z', hz2, ay, rfl, hy⟩ := all3.get ey'
      refine ⟨T0, _, rfl, .of A5, rfl, _, _, rfl, _, _, rfl, rfl, ?_⟩
      refine ⟨rfl, ?_⟩
      have s45 : ∀ b o, H3 b = some o → H5 b = some o := fun b o e => S5 _ _ (s4 _ _ e)
      refine ⟨_, rfl, ay, _, 0, _, rfl, rfl, .of (s45 _ _ hy), rfl, ?_⟩
      refine ⟨_, rfl, ax, _, 0, _, rfl, rfl, .of (s45 _ _ hx), rfl, _, _, rfl, rfl, _, _, rfl, rfl, _, rfl, ?_⟩
      have nx := lng_next (hst.2 i z hz1).lng (hst.2 (i + 1) z' hz2).lng
      refine iteN (decide_eq_false (by omega)) ?_
      exact ⟨s4.trans S5, S5 _ _ d4⟩
    · rintro H4 ⟨s4, d4⟩
      refine ⟨(by show 0 ≤ sizeLine; omega), fun p2 z2 => ?_⟩
      obtain ⟨H5, e5, S5, A5⟩ := alloc (o := .lst (([] : List Int).map V.int)) z2
      have e5' : upd H4 p2 (.lst []) = H5 := e5
      rw [e5']
      refine ⟨lI [], lI [], dp_lI (.of (S5 _ _ d4)), dp_lI (.of A5), shaped_lI _, shaped_lI _, _, rfl, ?_⟩
      rw [eqv_lI]
      refine iteN rfl ?_
      have s5 : Same H3 H5 := s4.trans S5
      have hB5 := s5 _ _ hB3
      refine ⟨_, rfl, .inl ⟨rfl, _, .of hB5⟩, ?_⟩
      have xl : xs.length < sizeLine := by
        have := two.l2
        rw [hall.length, hst.1, hz]
        omega
      refine ⟨B, _, _, rfl, rfl, hB5, xl, ?_⟩
      obtain ⟨H6, e6⟩ : ∃ H6, upd H5 B (.lst (xs ++ [V.non])) = H6 := ⟨_, rfl⟩
      rw [e6]
      have s6 : Same H H6 := fun b o e => by
        rw [← e6, upd_ne (ne_of_none e nB)]
        exact s5 _ _ (S3 _ _ (s2 _ _ (s1 _ _ e)))
      have CB : C ≠ B := fun z => by rw [z] at nC; rw [hB] at nC; cases nC
      have hC6 : H6 C = some (.lst ys) := by
        rw [← e6, upd_ne CB]
        exact s5 _ _ (S3 _ _ hC)
      have all6 : All2 (PairAt H6) ys zs := hall2.mono fun x z _ r => by
        rw [← e6]
        exact ((r.keep S3).keep s5).put hB5
      refine ⟨_, rfl, _, rfl, t, u, rfl, two, fun B7 xs7 zs7 H7 nB7 s7 hB7 hall7 hst7 => ?_⟩
      have ez := hst.one hst7
      subst ez
      refine ⟨_, rfl, sm_pairs hB7 (s7 _ _ hC6) hall7 (all6.mono fun _ _ _ r => r.keep s7), ?_⟩
      exact k H7 (s6.trans s7)
end
end T46

set_option Elab.async false
set_option linter.all false
set_option maxRecDepth 100000
set_option maxHeartbeats 4000000
namespace T46
open PySem PySem.Spec PyProof.Rows L2 EK
def spRight : Sp := fun vs H Q _ => ∃ t u : List Nat, vs = [.str (strL t), .str (strL u)] ∧ Two t u ∧ ∀ H', Same H H' → Q (.bl true) H'
def spLaw (K : PySem.W.Frag) : Sp := fun vs H Q _ => ∃ (a : Addr) (ns : List Int), vs = [.ref a] ∧ SqL K H a (ns.map V.int) ∧ ns.length ≤ 63 ∧ ∀ H', Q (.bl true) H'
theorem two_of {t u : List Nat} (h1 : t.length ≤ 310) (h2 : u.length ≤ 310) (b1 : isT (strL t) = true) (b2 : isT (strL u) = true) : Two t u := ⟨h1, h2, b1, b2⟩
theorem txok {m : Nat} {z : Str} (h : TxOk m z) : ∃ t : List Nat, z = strL t ∧ t.length ≤ m ∧ isT (strL t) = true := ⟨z.cps.toList, strL_of z, h.len, isT_of h.let_⟩
theorem rep_isT (n : Nat) : isT (strL (List.replicate n 107)) = true := isT_of fun c hc => by rw [(List.mem_replicate.mp hc).2]; decide +kernel
theorem flat_k (n : Nat) : (List.replicate n [107]).flatten = List.replicate n 107 := by
  induction n with
  | zero => rfl
  | succ n ih => rw [List.replicate_succ, List.flatten_cons, ih, List.replicate_succ]; rfl
theorem repK (n : Nat) : repS "k" n = strL (List.replicate n 107) := by rw [show ("k" : Str) = strL [107] from rfl, repL, flat_k]
/-- the lengths for a text in itself -/
theorem stat_self {u : List Nat} {zs : List (Nat × Nat)} (h : StatL u u zs) : (zs.map fun z => ((z.1 : Nat) : Int)) = rgC ((u.length : Nat) : Int) (-1) u.length := by
  unfold rgC
  refine List.ext_getElem? fun i => ?_
  rw [List.getElem?_map, List.getElem?_map]
  by_cases hi : i < u.length
  · obtain ⟨z, hz⟩ : ∃ z, zs[i]? = some z := ⟨_, List.getElem?_eq_getElem (by rw [h.1]; exact hi)⟩
    have e := (h.2 i z hz).lng.one (lng_self u i)
    rw [hz, List.getElem?_range hi]
    show some ((z.1 : Nat) : Int) = some (((u.length : Nat) : Int) + (i : Int) * (-1))
    rw [e]
    congr 1
    omega
  · rw [List.getElem?_eq_none (by rw [h.1]; omega), List.getElem?_eq_none (by rw [List.length_range]; omega)]
    rfl
theorem stat_k {a b : Nat} {zs : List (Nat × Nat)} (h : StatL (List.replicate a 107) (List.replicate b 107) zs) : zs = (List.range b).map fun k => (min a (b - k), 0) := by
  refine h.one ⟨by rw [List.length_map, List.length_range, List.length_replicate], fun p z e => ?_⟩
  rw [List.getElem?_map] at e
  by_cases hp : p < b
  · rw [List.getElem?_range hp] at e
    cases e
    exact stat_rep 107 a b p (by omega)
  · rw [List.getElem?_eq_none (by rw [List.length_range]; omega)] at e
    cases e
structure TxtL (K : PySem.W.Frag) (mg : Str → Option Value) : Prop where
  len : mg "len" = none
  range : mg "range" = none
  max : mg "max" = none
  min : mg "min" = none
  list : mg "list" = none
section
variable {P : Program} {w : World} {K : PySem.W.Frag} {mg : Str → Option Value} {base : Heap}
theorem scLaw : FnScope ["_law_script", "_law_small", "_law_text_here", "_law_other", "_law_k", "_law_well_here", "_law_turn", "_law_many", "_law_size", "_law_row"] ["_law_script"] (defScope sLaw) := ⟨rfl, rfl, rfl, by decide +kernel, rfl, by decide +kernel, by decide +kernel⟩
theorem ok_law {f fS fD fF fR fE fT fA fW fP : Addr} {fd fdS fdD fdF fdR fdE fdT fdA fdW fdP : FuncData} (F : Fun K "law" "law" sLaw f fd) (T : TxtL K mg)
    (GS : FnOk P w K mg base CX0 3 fS fdS ["text", "other"] spTell) (gS : mg "statistics" = some (.ref fS)) (kS : PySem.W.keepIn K (.ref fS) = true) (bS : Binds K fdS ["text", "other"] [])
    (GD : FnOk P w K mg base CX0 1 fD fdD ["_law_text_here", "_law_other"] spTell) (gD : mg "_law_due" = some (.ref fD)) (kD : PySem.W.keepIn K (.ref fD) = true) (bD : Binds K fdD ["_law_text_here", "_law_other"] [])
    (GF : FnOk P w K mg base CX0 1 fF fdF ["_law_text_here", "_law_other"] spTell) (gF : mg "_law_far_due" = some (.ref fF)) (kF : PySem.W.keepIn K (.ref fF) = true) (bF : Binds K fdF ["_law_text_here", "_law_other"] [])
    (GR : FnOk P w K mg base CX0 4 fR fdR ["_law_text_here", "_law_other"] spRight) (gR : mg "_law_right" = some (.ref fR)) (kR : PySem.W.keepIn K (.ref fR) = true) (bR : Binds K fdR ["_law_text_here", "_law_other"] [])
    (GE : FnOk P w K mg base CX0 3 fE fdE ["_law_well_here", "_law_text_here", "_law_most"] spPieces) (gE : mg "_law_pieces" = some (.ref fE)) (kE : PySem.W.keepIn K (.ref fE) = true) (bE : Binds K fdE ["_law_well_here", "_law_text_here", "_law_most"] [])
    (GT : FnOk P w K mg base CX0 3 fT fdT ["_law_well_here", "_law_most"] spText) (gT : mg "_law_text" = some (.ref fT)) (kT : PySem.W.keepIn K (.ref fT) = true) (bT : Binds K fdT ["_law_well_here", "_law_most"] [])
    (GA : FnOk P w K mg base CX0 1 fA fdA ["_law_letters", "_law_most"] spAll) (gA : mg "_law_all" = some (.ref fA)) (kA : PySem.W.keepIn K (.ref fA) = true) (bA : Binds K fdA ["_law_letters", "_law_most"] [])
    (GW : FnOk P w K mg base CX0 1 fW fdW ["_law_script", "_law_k"] (spWell K)) (gW : mg "_law_well" = some (.ref fW)) (kW : PySem.W.keepIn K (.ref fW) = true) (bW : Binds K fdW ["_law_script", "_law_k"] [])
    (GP : FnOk P w K mg base CX0 1 fP fdP ["_law_well_here", "_law_bound"] spPull) (gP : mg "_law_draw" = some (.ref fP)) (kP : PySem.W.keepIn K (.ref fP) = true) (bP : Binds K fdP ["_law_well_here", "_law_bound"] []) :
    FnOk P w K mg base CX0 5 f fd ["_law_script"] (spLaw K) := by
  refine F.ok scLaw (fun vs H Q E h => ?_) (fun cdv A outer s H vs Q E hr h => ?_)
  · obtain ⟨a, ns, rfl, _⟩ := h
    rfl
  · obtain ⟨a, ns, rfl, hS, hlen, k⟩ := h
    have nd := scLaw.nd
    have hz : sizeLine = 2 ^ 24 := sizeLine_eq
    have hrR : Room 4 _ := hr
    have hrS : Room 3 _ := hr.mono (by decide)
    have hrE : Room 3 _ := hr.mono (by decide)
    have hrT : Room 3 _ := hr.mono (by decide)
    have hrD : Room 1 _ := hr.mono (by decide)
    have hrF : Room 1 _ := hr.mono (by decide)
    have hrA : Room 1 _ := hr.mono (by decide)
    have hrW : Room 1 _ := hr.mono (by decide)
    have hr1 : Room 1 _ := hr.mono (by decide)
    have hu : (A.deeper (PyProof.Rows.envOfC "law" (defScope sLaw) s.heap.objs.size f cdv)).units + 64 < cLine := hr.units
    refine ⟨_, (pss_cons (ps_set (i := 1) nd rfl (Or.inl rfl) (pe_call GA hrA rfl gA kA bA .nil pass0 (pa_cons pe_str (pa_cons pe_int pa_nil))))
      (pss_cons (ps_for PassesOwn.never rfl (pi_list (pv 1)) (pg_name (i := 2) nd rfl (Or.inl rfl)) (pss_one (ps_for PassesOwn.never rfl (pi_list (pv 1)) (pg_name (i := 3) nd rfl (Or.inl rfl)) (pss_one (ps_if (pt_cmpR (op_neS hu) (pe_call GS hrS rfl gS kS bS .nil pass0 (pa_cons (pv 2) (pa_cons (pv 3) pa_nil))) (pe_call GD hrD rfl gD kD bD .nil pass0 (pa_cons (pv 2) (pa_cons (pv 3) pa_nil))) (nomark _)) (pss_one (ps_ret pe_bl)) pss_nil)))))
      (pss_cons (ps_for PassesOwn.never rfl (pi_range1 (by rfl) T.range (pa_cons (pe_callB (call_max2 rfl) (by rfl) T.max (by decide +kernel) (pa_cons pe_int (pa_cons (pe_callB (call_min2 rfl) (by rfl) T.min (by decide +kernel) (pa_cons pe_int (pa_cons (pe_callB call_len_seq (by rfl) T.len (by decide +kernel) (pa_cons (pv 0) pa_nil)) pa_nil))) pa_nil))) pa_nil)) (pg_name (i := 4) nd rfl (Or.inl rfl)) (pss_cons (ps_set (i := 5) nd rfl (Or.inl rfl) (pe_call GW hrW rfl gW kW bW .nil pass0 (pa_cons (pv 0) (pa_cons (pv 4) pa_nil))))
      (pss_cons (ps_for PassesOwn.never rfl (pi_range1 (by rfl) T.range (pa_cons pe_int pa_nil)) (pg_name (i := 6) nd rfl (Or.inl rfl)) (pss_cons (ps_set (i := 2) nd rfl (Or.inl rfl) (pe_call GT hrT rfl gT kT bT .nil pass0 (pa_cons (pv 5) (pa_cons pe_int pa_nil))))
      (pss_cons (ps_if (PW.pt (pw_or (pt_not (pt_val (pe_call GR hrR rfl gR kR bR .nil pass0 (pa_cons (pv 2) (pa_cons (pe_call GT hrT rfl gT kT bT .nil pass0 (pa_cons (pv 5) (pa_cons pe_int pa_nil))) pa_nil))))) (pw_or1 (pt_not (pt_val (pe_call GR hrR rfl gR kR bR .nil pass0 (pa_cons (pv 2) (pa_cons (pe_call GE hrE rfl gE kE bE .nil pass0 (pa_cons (pv 5) (pa_cons (pv 2) (pa_cons pe_int pa_nil)))) pa_nil)))))))) (pss_one (ps_ret pe_bl)) pss_nil)
      (pss_one (ps_if (pt_cmpR (op_neS hu) (pe_lc (own := [("_law_row", 9)]) (g := gName 9) (tt := tYes) rfl nd (pi_list (pe_call GS hrS rfl gS kS bS .nil pass0 (pa_cons (pv 2) (pa_cons (pv 2) pa_nil)))) (blkOk_by (N := ["_law_script", "_law_small", "_law_text_here", "_law_other", "_law_k", "_law_well_here", "_law_turn", "_law_many", "_law_size", "_law_row"]) (sc := defScope sLaw) (by decide +kernel)) (fun _ _ _ _ _ => (pg_name (i := 9) nd rfl (Or.inl rfl))) (fun _ _ _ _ _ => pts_nil) (fun _ _ _ _ _ => (pe_ix (ix_tupK (K := K)) (pv 9) pe_int (fun _ _ => rfl)))) (pe_listRg3 rfl (by rfl) T.list (by rfl) T.range (pa_cons (pe_callB call_len_str (by rfl) T.len (by decide +kernel) (pa_cons (pv 2) pa_nil)) (pa_cons pe_int (pa_cons (pe_un un_neg pe_int) pa_nil)))) (nomark _)) (pss_one (ps_ret pe_bl)) pss_nil)))))
      (pss_cons (ps_set (i := 2) nd rfl (Or.inl rfl) (pe_call GT hrT rfl gT kT bT .nil pass0 (pa_cons (pv 5) (pa_cons pe_int pa_nil))))
      (pss_cons (ps_set (i := 3) nd rfl (Or.inl rfl) (pe_call GE hrE rfl gE kE bE .nil pass0 (pa_cons (pv 5) (pa_cons (pv 2) (pa_cons pe_int pa_nil)))))
      (pss_cons (ps_if (pt_cmpR (op_neS hu) (pe_call GS hrS rfl gS kS bS .nil pass0 (pa_cons (pv 2) (pa_cons (pv 3) pa_nil))) (pe_call GF hrF rfl gF kF bF .nil pass0 (pa_cons (pv 2) (pa_cons (pv 3) pa_nil))) (nomark _)) (pss_one (ps_ret pe_bl)) pss_nil)
      (pss_cons (ps_asg (pe_tup (pa_cons (pe_call GP hr1 rfl gP kP bP .nil pass0 (pa_cons (pv 5) (pa_cons pe_int pa_nil))) (pa_cons (pe_call GP hr1 rfl gP kP bP .nil pass0 (pa_cons (pv 5) (pa_cons pe_int pa_nil))) pa_nil))) (pg_tup rfl (pgs_cons (pg_name (i := 7) nd rfl (Or.inr rfl)) (pgs_cons (pg_name (i := 8) nd rfl (Or.inr rfl)) pgs_nil))))
      (pss_one (ps_if (pt_cmpR (op_neS hu) (pe_call GS hrS rfl gS kS bS .nil pass0 (pa_cons (pe_op op_mulS pe_str (pv 7)) (pa_cons (pe_op op_mulS pe_str (pv 8)) pa_nil))) (pe_lc (own := [("_law_k", 4)]) (g := gName 4) (tt := tYes) rfl nd (pi_range1 (by rfl) T.range (pa_cons (pv 8) pa_nil)) (blkOk_by (N := ["_law_script", "_law_small", "_law_text_here", "_law_other", "_law_k", "_law_well_here", "_law_turn", "_law_many", "_law_size", "_law_row"]) (sc := defScope sLaw) (by decide +kernel)) (fun _ _ _ _ _ => (pg_name (i := 4) nd rfl (Or.inl rfl))) (fun _ _ _ _ _ => pts_nil) (fun _ _ _ _ _ => (pe_tup (pa_cons (pe_callB (call_min2 rfl) (by rfl) T.min (by decide +kernel) (pa_cons (pv 7) (pa_cons (pe_op op_sub (pv 8) (pv 4)) pa_nil))) (pa_cons pe_int pa_nil))))) (nomark _)) (pss_one (ps_ret pe_bl)) pss_nil)))))))))
      (pss_one (ps_ret pe_bl))))), ?_⟩
    refine ⟨[97, 98], 4, rfl, by decide, by decide, fun A0 H1 nA s1 hA => ?_⟩
    have hS1 : SqL K H1 a (ns.map V.int) := sqL_same s1 hS
    have am := allN_mem [97, 98] 4
    obtain ⟨ws, hws⟩ : ∃ ws, allN [97, 98] 4 = ws := ⟨_, rfl⟩
    rw [hws] at hA am
    have abl : ∀ c ∈ ([97, 98] : List Nat), c ∈ letS.cps.toList := by decide +kernel
    have wT : ∀ t ∈ ws, t.length ≤ 310 ∧ isT (strL t) = true := fun t ht => ⟨by have := (am t ht).1; omega, isT_of fun c hc => abl c ((am t ht).2 c hc)⟩
    have wat : ∀ {i : Nat} {x : V}, (wsV ws)[i]? = some x → ∃ t, x = .str (strL t) ∧ t ∈ ws := fun {i x} h => by
      unfold wsV at h
      rw [List.getElem?_map] at h
      obtain ⟨t, ht, rfl⟩ := Option.map_eq_some_iff.mp h
      exact ⟨t, rfl, List.mem_of_getElem? ht⟩
    refine ⟨_, rfl, A0, rfl, ⟨_, .of hA⟩, for_list (K := K) (a := A0) (xs := wsV ws) (fun i σ H' => ∃ v2 v3 : Option V, σ = [some (.ref a), some (.ref A0), v2, v3, none, none, none, none, none, none] ∧ Same H1 H') ⟨_, _, rfl, .refl _⟩ (fun i σ H' _ ⟨_, _, _, s⟩ => .of (s _ _ hA)) ?_ ?_⟩
    · rintro i y σ H2 hi ⟨v2, v3, rfl, s2⟩
      obtain ⟨t, rfl, ht⟩ := wat hi
      refine ⟨_, rfl, A0, rfl, ⟨_, .of (s2 _ _ hA)⟩, for_list (K := K) (a := A0) (xs := wsV ws) (fun i σ H' => ∃ v3 : Option V, σ = [some (.ref a), some (.ref A0), some (.str (strL t)), v3, none, none, none, none, none, none] ∧ Same H1 H') ⟨_, rfl, s2⟩ (fun i σ H' _ ⟨_, _, s⟩ => .of (s _ _ hA)) ?_ ?_⟩
      · rintro j y σ H3 hj ⟨v3, rfl, s3⟩
        obtain ⟨u, rfl, hu'⟩ := wat hj
        have two : Two t u := ⟨(wT t ht).1, (wT u hu').1, (wT t ht).2, (wT u hu').2⟩
        refine ⟨_, rfl, _, rfl, t, u, rfl, two, fun B xs zs H4 nB s4 hB hall hst => ?_⟩
        refine ⟨_, rfl, _, rfl, t, u, rfl, two, fun C ys zs2 H5 nC s5 hC hall2 hst2 => ?_⟩
        have ez := hst.one hst2
        subst ez
        refine ⟨sm_pairs (s5 _ _ hB) hC (hall.mono fun _ _ _ r => r.keep s5) hall2, _, rfl, ?_⟩
        refine iteN rfl ?_
        exact ⟨_, rfl, (s3.trans s4).trans s5⟩
      · rintro σ H3 ⟨v3, rfl, s3⟩
        exact ⟨_, _, rfl, s3⟩
    · rintro σ H2 ⟨v2, v3, rfl, s2⟩
      have hS2 := sqL_same s2 hS1
      refine ⟨_, rfl, a, _, rfl, .inl hS2, ?_⟩
      refine ⟨_, _, rfl, _, _, rfl, ?_⟩
      obtain ⟨q, hq⟩ : ∃ q : Int, (if (if (((ns.map V.int).length : Nat) : Int) < 4 then (((ns.map V.int).length : Nat) : Int) else 4) > 1 then (if (((ns.map V.int).length : Nat) : Int) < 4 then (((ns.map V.int).length : Nat) : Int) else 4) else 1) = q := ⟨_, rfl⟩
      have q4 : q ≤ 4 := by rw [← hq]; split <;> (try split) <;> omega
      have q1 : 1 ≤ q := by rw [← hq]; split <;> (try split) <;> omega
      refine ⟨_, rfl, ?_⟩
      rw [hq]
      refine ⟨by omega, by omega, ?_⟩
      refine for_range (lo := 0) (n := q.toNat) (fun i σ H' => ∃ v2 v3 v4 v5 v6 v7 v8 v9 : Option V, σ = [some (.ref a), some (.ref A0), v2, v3, v4, v5, v6, v7, v8, v9] ∧ Same H2 H') ⟨_, _, _, _, _, _, _, _, rfl, .refl _⟩ ?_ ?_
      · rintro i σ H3 hi ⟨v2, v3, v4, v5, v6, v7, v8, v9, rfl, s3⟩
        rw [Int.zero_add]
        refine ⟨_, rfl, _, rfl, a, ns, i, rfl, sqL_same s3 hS2, hlen, by omega, fun wl H4 nwl hw sw => ?_⟩
        have newW : ∀ {b o}, H3 b = some o → b ≠ wl := fun e => ne_of_none e nwl
        refine ⟨_, rfl, by decide, by decide, ?_⟩
        refine for_range (lo := 0) (n := 3) (fun j σ H' => ∃ v2 v3 v6 v7 v8 v9 : Option V, σ = [some (.ref a), some (.ref A0), v2, v3, some (.int (i : Int)), some (.ref wl), v6, v7, v8, v9] ∧ UrnAt H' wl ((1600 * j : Nat) : Int) ∧ KeepB wl H4 H') ⟨_, _, _, _, _, _, rfl, hw.mono (by omega), .rfl⟩ ?_ ?_
        · rintro j σ H5 hj ⟨v2, v3, v6, v7, v8, v9, rfl, hw5, kb5⟩
          rw [Int.zero_add]
          refine ⟨_, rfl, wl, _, 30, rfl, hw5, by omega, by decide, fun z H6 ok6 hw6 kb6 => ?_⟩
          obtain ⟨t, rfl, tl, tb⟩ := txok ok6
          refine ⟨_, rfl, _, rfl, wl, _, 30, rfl, hw6, by omega, by decide, fun z H7 ok7 hw7 kb7 => ?_⟩
          obtain ⟨u, rfl, ul, ub⟩ := txok ok7
          refine ⟨t, u, rfl, ⟨by omega, by omega, tb, ub⟩, fun H8 s8 => ?_⟩
          refine ⟨_, rfl, ?_⟩
          refine iteN rfl ?_
          refine ⟨_, rfl, _, rfl, _, rfl, wl, _, t, 9, rfl, hw7.keep (s8 wl), by omega, by omega, tb, by decide, by decide, fun u2 H9 ul2 ub2 hw9 kb9 => ?_⟩
          refine ⟨t, u2, rfl, ⟨by omega, by omega, tb, ub2⟩, fun H10 s10 => ?_⟩
          refine ⟨_, rfl, ?_⟩
          refine iteN rfl ?_
          have hw10 := hw9.keep (s10 wl)
          have kb10 : KeepB wl H4 H10 := (((kb5.trans kb6).trans kb7).trans (.of s8)).trans (kb9.trans (.of s10))
          refine ⟨_, rfl, _, rfl, t, t, rfl, ⟨by omega, by omega, tb, tb⟩, fun B xs zs H11 nB s11 hB hall hst => ?_⟩
          refine ⟨B, rfl, ⟨_, .of hB⟩, fun D nD => ?_⟩
          have zl : zs.length < sizeLine := by rw [hst.1, hz]; omega
          refine lcM_list (K := K) (a := B) (xs := xs) (zs := zs) (R := PairAt) (R' := fun _ x n => x = V.int n) (fun _ => true) (fun z => ((z.1 : Nat) : Int)) nD (.of hB) hall (fun _ _ _ _ s r => r.keep s) (fun _ _ _ _ _ r => r) zl ?_ ?_
          · intro m x z G C C0 hz' s rx yes no
            obtain ⟨ax, rfl, hx⟩ := rx
            refine ⟨rfl, ?_⟩
            refine yes_i ?_
            refine iteY rfl ?_
            refine ⟨_, rfl, ax, _, 0, _, rfl, rfl, .of hx, rfl, ?_⟩
            exact yes rfl _ _ (fun _ _ q => q) rfl
          · intro ys H12 s12 hD hall12
            have ey := hall12.eq_map
            rw [List.filter_eq_self.mpr (fun _ _ => rfl), stat_self hst] at ey
            have tl2 : (strL t).length = t.length := strL_len t
            refine ⟨_, rfl, strL t, rfl, (by rw [tl2, hz]; omega), ?_⟩
            rw [tl2]
            refine ⟨_, rfl, _, _, _, _, rfl, RgC.down (by decide) (by omega) (by omega), by omega, fun p12 z12 => ?_⟩
            have e0 : (((t.length : Nat) : Int) - 0).toNat = t.length := by omega
            rw [e0]
            obtain ⟨H13, e13, S13, A13⟩ := alloc (o := .lst ((rgC ((t.length : Nat) : Int) (-1) t.length).map V.int)) z12
            rw [e13]
            refine ⟨.ls (.of (S13 _ _ hD)) (.of A13) (by rw [ey]) fun m x y e1 e2 => ?_, _, rfl, ?_⟩
            · rw [ey, e2] at e1
              cases e1
              rw [List.getElem?_map] at e2
              obtain ⟨z, _, rfl⟩ := Option.map_eq_some_iff.mp e2
              exact .rf _ fun b z => by cases z
            refine iteN rfl ?_
            have s13 : Same H10 H13 := fun b o e => S13 _ _ (s12 _ _ (s11 _ _ e))
            exact ⟨_, _, _, _, _, _, rfl, (hw10.keep (s13 wl)).mono (by omega), kb10.trans (.of s13)⟩
        · rintro σ H5 ⟨v2, v3, v6, v7, v8, v9, rfl, hw5, kb5⟩
          refine ⟨_, rfl, wl, _, 300, rfl, hw5, by omega, by decide, fun z H6 ok6 hw6 kb6 => ?_⟩
          obtain ⟨t, rfl, tl, tb⟩ := txok ok6
          refine ⟨_, rfl, _, rfl, wl, _, t, 200, rfl, hw6, by omega, by omega, tb, by decide, by decide, fun u H7 ul ub hw7 kb7 => ?_⟩
          have two : Two t u := ⟨by omega, by omega, tb, ub⟩
          refine ⟨_, rfl, _, rfl, t, u, rfl, two, fun B xs zs H8 nB s8 hB hall hst => ?_⟩
          refine ⟨_, rfl, _, rfl, t, u, rfl, two, fun C ys zs2 H9 nC s9 hC hall2 hst2 => ?_⟩
          have ez := hst.one hst2
          subst ez
          refine ⟨sm_pairs (s9 _ _ hB) hC (hall.mono fun _ _ _ r => r.keep s9) hall2, _, rfl, ?_⟩
          refine iteN rfl ?_
          have hw9 := hw7.keep fun o e => s9 _ _ (s8 _ _ e)
          refine ⟨_, rfl, wl, _, _, rfl, hw9, by omega, by decide, by decide, fun d1 H10 h01 h1 hw10 kb10 => ?_⟩
          refine ⟨_, rfl, wl, _, _, rfl, hw10, by omega, by decide, by decide, fun d2 H11 h02 h2 hw11 kb11 => ?_⟩
          obtain ⟨m, rfl⟩ : ∃ j : Nat, d1 = (j : Int) := ⟨d1.toNat, by omega⟩
          obtain ⟨sz, rfl⟩ : ∃ j : Nat, d2 = (j : Int) := ⟨d2.toNat, by omega⟩
          refine ⟨(by show 2 ≤ sizeLine; decide), fun p12 z12 => ?_⟩
          obtain ⟨H12, e12, S12, A12⟩ := alloc (o := .tup [.int (m : Int), .int (sz : Int)]) z12
          rw [e12]
          refine ⟨p12, _, rfl, .of A12, rfl, _, _, rfl, _, _, rfl, rfl, ?_⟩
          have kl : ∀ n : Nat, n ≤ 310 → ("k" : Str).cps.toList.length * ((n : Nat) : Int).toNat ≤ 2 ^ 24 := fun n hn => by
            rw [Int.toNat_natCast]
            show 1 * n ≤ _
            omega
          refine ⟨_, rfl, _, _, rfl, rfl, by omega, by omega, kl m (by omega), ?_⟩
          refine ⟨_, rfl, _, _, rfl, rfl, by omega, by omega, kl sz (by omega), ?_⟩
          rw [Int.toNat_natCast, Int.toNat_natCast, repK, repK]
          refine ⟨List.replicate m 107, List.replicate sz 107, rfl, ⟨by rw [List.length_replicate]; omega, by rw [List.length_replicate]; omega, rep_isT m, rep_isT sz⟩, fun B xs zs H13 nB s13 hB hall hst => ?_⟩
          have ez := stat_k hst
          subst ez
          refine ⟨_, rfl, _, rfl, by omega, by omega, fun D nD => ?_⟩
          refine lc_range (lo := 0) (n := ((sz : Nat) : Int).toNat) (fun n H' => Same H13 H' ∧ ∃ ys, H' D = some (.lst ys) ∧ All2 (PairAt H') ys ((List.range n).map fun k => (min m (sz - k), 0))) ⟨fun b o e => by rw [upd_ne (ne_of_none e nD)]; exact e, [], upd_same, .nil⟩ ?_ ?_
          · rintro n H14 hn ⟨s14, ys, d14, all14⟩
            rw [Int.toNat_natCast] at hn
            refine ⟨rfl, ?_⟩
            refine yes_i ?_
            refine iteY rfl ?_
            refine ⟨_, rfl, _, rfl, _, rfl, _, _, rfl, rfl, _, _, rfl, ?_⟩
            have emin : (if ((sz : Int) - (0 + (n : Int))) < (m : Int) then ((sz : Int) - (0 + (n : Int))) else (m : Int)) = ((min m (sz - n) : Nat) : Int) := by split <;> omega
            dsimp only
            rw [emin]
            refine ⟨(by show 2 ≤ sizeLine; decide), fun p15 z15 => ?_⟩
            obtain ⟨H15, e15, S15, A15⟩ := alloc (o := .tup [.int ((min m (sz - n) : Nat) : Int), .int 0]) z15
            rw [e15]
            have d15 := S15 _ _ d14
            refine ⟨_, d15, by rw [all14.length, List.length_map, List.length_range, hz]; omega, fun b o e => ?_, _, upd_same, ?_⟩
            · rw [upd_ne (ne_of_none e nD)]
              exact S15 _ _ (s14 _ _ e)
            · rw [List.range_succ, List.map_append]
              exact All2.append (all14.mono fun _ _ _ r => (r.keep S15).put d15) (.cons (PairAt.put (z := (min m (sz - n), 0)) ⟨p15, rfl, A15⟩ d15) .nil)
          · rintro H14 ⟨s14, ys, d14, all14⟩
            rw [Int.toNat_natCast] at all14
            refine ⟨sm_pairs (s14 _ _ hB) d14 (hall.mono fun _ _ _ r => r.keep s14) all14, _, rfl, ?_⟩
            refine iteN rfl ?_
            refine ⟨_, _, _, _, _, _, _, _, rfl, fun b o e => ?_⟩
            have e3 := s3 _ _ e
            have nb := newW e3
            exact s14 _ _ (s13 _ _ (S12 _ _ (kb11 _ _ (kb10 _ _ (s9 _ _ (s8 _ _ (kb7 _ _ (kb6 _ _ (kb5 _ _ (sw _ _ e3) nb) nb) nb))) nb) nb)))
      · rintro σ H3 ⟨v2, v3, v4, v5, v6, v7, v8, v9, rfl, s3⟩
        exact k _
end
end T46

set_option Elab.async false
set_option linter.all false
set_option maxRecDepth 100000
set_option maxHeartbeats 4000000
/-! ErrEnd: an error class's facts, from what the top has written. -/
namespace EK
open PySem PySem.W L2
def errB (K : Frag) (C fI : Addr) (f : Str) : Bool :=
  xfB K C && (decide (findIn K (.ref C) "__setattr__" = some (some (.builtin "object.__setattr__"))) && (decide (findIn K (.ref C) f = some none) && (decide (typeIn K (.ref fI) = some (.type "function")) && (keepIn K (.ref C) &&
  (decide (typeIn K (.ref C) = some (.type "type")) && (decide (exmOne K (.ref C) (.ref C) = some true) && (decide (subIn K (.ref C) (.type "ValueError") = some true) && (decide (ks_superIn K C C "__init__" = some (some (.builtin "ValueError.__init__"))) &&
  (decide (mroIn K C (.ref C) = some true) && (decide (findIn K (.ref C) "__class__" = some (some (.builtin "object.__class__"))) && decide (mroIn K C (.type "object") = some true)))))))))))
theorem and2 {a b : Bool} (h : (a && b) = true) : a = true ∧ b = true := Bool.and_eq_true_iff.mp h
theorem err_mk {P : Program} {K : Frag} {h : Heap} {mg : Str → Option Value} {x f : Str} {C fI N cda cc : Addr} (X : K.In h) (G : h.Ns mainGlobals mg)
    {nm q qn msg file : Str} {bs bm : List Value} {sn : List Str} {sub : List Value} {ab : Bool} {col : Option Bool} {dd od an cdd cld : Option Addr} {m0 m1 m2 m3 m5 : Option Value} {oc doc pm ct ccl cl : Value} {osl ccs csl : Array (Option Value)} {vs : Array Value} {tf : Tok}
    {p1 p2 a1 a2 a3 a4 a5 a6 b1 b2 b3 b4 : Pos}
    (aC : nsIn K mainGlobals x = some (some (.ref C))) (xL : K.lookup C = some (excClassObj nm q C N bs bm true sn sub ab col dd m0 m1 m2 m3 m5 "ValueError.__new__")) (rv : HandSPX.refsVE bm = true)
    (iC : findIn K (.ref C) "__init__" = some (some (.ref fI)))
    (l1 : K.lookup fI = some ⟨oc, od, .func (ksFn "__init__" qn (eArgs f p1 p2) (eBody f msg a1 a2 a3 a4 a5 a6 b1 b2 b3 b4) (eScope f) .none .none doc pm an (.ref cda) ct cc), osl⟩) (c1 : codeIn K (.ref cda) qn = true)
    (bd : ∀ u v : Value, bindArgs (ksFn "__init__" qn (eArgs f p1 p2) (eBody f msg a1 a2 a3 a4 a5 a6 b1 b2 b3 b4) (eScope f) .none .none doc pm an (.ref cda) ct cc) ⟨[u, v], []⟩ = pure [(("self" : Str), u), (f, v)])
    (sc : ∀ L : Addr, SupCall a1 a2 a3 a4 a5 msg (callEnv (ksFn "__init__" qn (eArgs f p1 p2) (eBody f msg a1 a2 a3 a4 a5 a6 b1 b2 b3 b4) (eScope f) .none .none doc pm an (.ref cda) ct cc) L fI))
    (cd : K.lookup cda = some ⟨ccl, cdd, .fields vs, ccs⟩) (vf : vs[2]? = some (.str file tf)) (pf : ((P.main.file : Str) == file) = true) (cL : K.lookup cc = some ⟨cl, cld, .cell (some (.ref C)), csl⟩)
    (eB : errB K C fI f = true) (ho : nsIn K cStatics "thirdparty.any" = some none) (su : nsIn K mainGlobals "super" = some none) (fok : f ≠ "self" ∧ f ≠ "__class__" ∧ f ≠ "super" ∧ f ≠ "__debug__") (top : (P.main.scope.names.lookup ("super" : Str)).isSome = false) :
    ErrTxt P K mg x f C fI := by
  obtain ⟨h1, eB⟩ := and2 eB
  obtain ⟨h2, eB⟩ := and2 eB
  obtain ⟨h3, eB⟩ := and2 eB
  obtain ⟨h4, eB⟩ := and2 eB
  obtain ⟨h5, eB⟩ := and2 eB
  obtain ⟨h6, eB⟩ := and2 eB
  obtain ⟨h7, eB⟩ := and2 eB
  obtain ⟨h8, eB⟩ := and2 eB
  obtain ⟨h9, eB⟩ := and2 eB
  obtain ⟨h10, eB⟩ := and2 eB
  have T := xfB_ok h1
  exact { gC := mg_of X G aC, cls := ⟨nm, q, N, bs, bm, sn, sub, ab, col, dd, m0, m1, m2, m3, m5, xL, rv⟩, sa := of_decide_eq_true h2, ga := T.ga, gg := T.gg, noN := of_decide_eq_true h3, iC := iC, tC := of_decide_eq_true h4, kC := h5, exC := T.exC,
          tyC := of_decide_eq_true h6, hdC := T.hdC, te := of_decide_eq_true h7, hB := of_decide_eq_true h8, si := of_decide_eq_true h9, ho := ho, su := mg_none_of X G su, mC := of_decide_eq_true h10, fok := fok, top := top,
          fn := ⟨oc, od, qn, msg, doc, pm, an, cda, cc, ct, osl, p1, p2, a1, a2, a3, a4, a5, a6, b1, b2, b3, b4, l1, c1, bd, sc, ⟨ccl, cdd, ccs, vs, file, tf, cd, vf, pf⟩, ⟨cl, cld, csl, cL⟩⟩ }
theorem excC_of {K : Frag} {C fI : Addr} {f : Str} (eB : errB K C fI f = true) (hn : specialIn K (.builtin "object.__class__") "__get__" = some (some (.builtin "getset_descriptor.__get__"))) (ht : takesIn K (.builtin "object.__class__") = some true) : ExcC K C := by
  obtain ⟨h1, eB⟩ := and2 eB
  obtain ⟨h2, eB⟩ := and2 eB
  obtain ⟨h3, eB⟩ := and2 eB
  obtain ⟨h4, eB⟩ := and2 eB
  obtain ⟨h5, eB⟩ := and2 eB
  obtain ⟨h6, eB⟩ := and2 eB
  obtain ⟨h7, eB⟩ := and2 eB
  obtain ⟨h8, eB⟩ := and2 eB
  obtain ⟨h9, eB⟩ := and2 eB
  obtain ⟨h10, eB⟩ := and2 eB
  obtain ⟨h11, h12⟩ := and2 eB
  have T := xfB_ok h1
  exact ⟨T.ga, T.gg, T.exC, T.hdC, of_decide_eq_true h11, hn, ht, of_decide_eq_true h12⟩
/-- which class is which, told apart -/
def kindsB (K : Frag) (E : Addr) (Cs : List Addr) : Bool :=
  (Cs.zipIdx.all fun p => Cs.zipIdx.all fun q => decide (kitOne K (.ref p.1) (.ref q.1) = some (decide (p.2 = q.2)))) && (Cs.all fun C => decide (kitOne K (.ref C) (.ref E) = some true) && decide (kitOne K (.ref C) (.type "ValueError") = some true))
theorem kinds_kt {K : Frag} {E : Addr} {Cs : List Addr} (h : kindsB K E Cs = true) (i j : Nat) (C D : Addr) (h1 : Cs[i]? = some C) (h2 : Cs[j]? = some D) : kitOne K (.ref C) (.ref D) = some (decide (i = j)) := by
  obtain ⟨h, _⟩ := and2 h
  have q := List.all_eq_true.mp h (C, i) (List.mk_mem_zipIdx_iff_getElem?.mpr h1)
  have q := List.all_eq_true.mp q (D, j) (List.mk_mem_zipIdx_iff_getElem?.mpr h2)
  exact of_decide_eq_true q
theorem kinds_ke {K : Frag} {E : Addr} {Cs : List Addr} (h : kindsB K E Cs = true) (C : Addr) (hC : C ∈ Cs) : kitOne K (.ref C) (.ref E) = some true ∧ kitOne K (.ref C) (.type "ValueError") = some true := by
  obtain ⟨_, h⟩ := and2 h
  obtain ⟨a, b⟩ := and2 (List.all_eq_true.mp h C hC)
  exact ⟨of_decide_eq_true a, of_decide_eq_true b⟩
end EK

set_option Elab.async false
set_option linter.all false
set_option maxRecDepth 100000
set_option maxHeartbeats 4000000
namespace T46
open PySem L2 EK
theorem all_mk {l : PySem.W.OpenLaw} {w : World} {K : PySem.W.Frag} {h : Heap} {mg : Str → Option Value} {fa  : Addr} {t1 : Tok} (X : K.In h) (G : h.Ns mainGlobals mg) (hfa : mg "law" = some (.ref fa))
    {fIT : Addr} {odIT anIT : Option Addr} {slIT : Array (Option Value)} {ocIT kVIT dcIT pmIT cdIT ctIT : Value}
    {fCT : Addr} {odCT anCT : Option Addr} {slCT : Array (Option Value)} {ocCT kVCT dcCT pmCT cdCT ctCT : Value}
    {fS : Addr} {odS anS : Option Addr} {slS : Array (Option Value)} {ocS kVS dcS pmS cdS ctS : Value}
    {fW : Addr} {odW anW : Option Addr} {slW : Array (Option Value)} {ocW kVW dcW pmW cdW ctW : Value}
    {fP : Addr} {odP anP : Option Addr} {slP : Array (Option Value)} {ocP kVP dcP pmP cdP ctP : Value}
    {fI : Addr} {odI anI : Option Addr} {slI : Array (Option Value)} {ocI kVI dcI pmI cdI ctI : Value}
    {fT : Addr} {odT anT : Option Addr} {slT : Array (Option Value)} {ocT kVT dcT pmT cdT ctT : Value}
    {fA : Addr} {odA anA : Option Addr} {slA : Array (Option Value)} {ocA kVA dcA pmA cdA ctA : Value}
    {fD : Addr} {odD anD : Option Addr} {slD : Array (Option Value)} {ocD kVD dcD pmD cdD ctD : Value}
    {fR : Addr} {odR anR : Option Addr} {slR : Array (Option Value)} {ocR kVR dcR pmR cdR ctR : Value}
    {fE : Addr} {odE anE : Option Addr} {slE : Array (Option Value)} {ocE kVE dcE pmE cdE ctE : Value}
    {fF : Addr} {odF anF : Option Addr} {slF : Array (Option Value)} {ocF kVF dcF pmF cdF ctF : Value}
    {fZ : Addr} {odZ anZ : Option Addr} {slZ : Array (Option Value)} {ocZ kVZ dcZ pmZ cdZ ctZ : Value}
     
    (aIT : PySem.W.nsIn K mainGlobals "is_text" = some (some (.ref fIT))) (lIT : K.lookup fIT = some ⟨ocIT, odIT, .func (PySem.W.fnOf "is_text" "is_text" (defArgs sIsText) (defBody sIsText) (defScope sIsText) .none kVIT dcIT pmIT anIT cdIT ctIT), slIT⟩) (cIT : PySem.W.codeIn K cdIT "is_text" = true) (kIT : PySem.W.keepIn K (.ref fIT) = true)
    (aCT : PySem.W.nsIn K mainGlobals "check_text" = some (some (.ref fCT))) (lCT : K.lookup fCT = some ⟨ocCT, odCT, .func (PySem.W.fnOf "check_text" "check_text" (defArgs sCkText) (defBody sCkText) (defScope sCkText) .none kVCT dcCT pmCT anCT cdCT ctCT), slCT⟩) (cCT : PySem.W.codeIn K cdCT "check_text" = true) (kCT : PySem.W.keepIn K (.ref fCT) = true)
    (aS : PySem.W.nsIn K mainGlobals "statistics" = some (some (.ref fS))) (lS : K.lookup fS = some ⟨ocS, odS, .func (PySem.W.fnOf "statistics" "statistics" (defArgs pStatistics) (defBody pStatistics) (defScope pStatistics) .none kVS dcS pmS anS cdS ctS), slS⟩) (cS : PySem.W.codeIn K cdS "statistics" = true) (kS : PySem.W.keepIn K (.ref fS) = true)
    (aW : PySem.W.nsIn K mainGlobals "_law_well" = some (some (.ref fW))) (lW : K.lookup fW = some ⟨ocW, odW, .func (PySem.W.fnOf "_law_well" "_law_well" (defArgs sWell) (defBody sWell) (defScope sWell) .none kVW dcW pmW anW cdW ctW), slW⟩) (cW : PySem.W.codeIn K cdW "_law_well" = true) (kW : PySem.W.keepIn K (.ref fW) = true)
    (aP : PySem.W.nsIn K mainGlobals "_law_draw" = some (some (.ref fP))) (lP : K.lookup fP = some ⟨ocP, odP, .func (PySem.W.fnOf "_law_draw" "_law_draw" (defArgs sPull) (defBody sPull) (defScope sPull) .none kVP dcP pmP anP cdP ctP), slP⟩) (cP : PySem.W.codeIn K cdP "_law_draw" = true) (kP : PySem.W.keepIn K (.ref fP) = true)
    (aI : PySem.W.nsIn K mainGlobals "_law_pick" = some (some (.ref fI))) (lI : K.lookup fI = some ⟨ocI, odI, .func (PySem.W.fnOf "_law_pick" "_law_pick" (defArgs sPick) (defBody sPick) (defScope sPick) .none kVI dcI pmI anI cdI ctI), slI⟩) (cI : PySem.W.codeIn K cdI "_law_pick" = true) (kI : PySem.W.keepIn K (.ref fI) = true)
    (aT : PySem.W.nsIn K mainGlobals "_law_text" = some (some (.ref fT))) (lT : K.lookup fT = some ⟨ocT, odT, .func (PySem.W.fnOf "_law_text" "_law_text" (defArgs sText) (defBody sText) (defScope sText) .none kVT dcT pmT anT cdT ctT), slT⟩) (cT : PySem.W.codeIn K cdT "_law_text" = true) (kT : PySem.W.keepIn K (.ref fT) = true)
    (aA : PySem.W.nsIn K mainGlobals "_law_all" = some (some (.ref fA))) (lA : K.lookup fA = some ⟨ocA, odA, .func (PySem.W.fnOf "_law_all" "_law_all" (defArgs sAll) (defBody sAll) (defScope sAll) .none kVA dcA pmA anA cdA ctA), slA⟩) (cA : PySem.W.codeIn K cdA "_law_all" = true) (kA : PySem.W.keepIn K (.ref fA) = true)
    (aD : PySem.W.nsIn K mainGlobals "_law_due" = some (some (.ref fD))) (lD : K.lookup fD = some ⟨ocD, odD, .func (PySem.W.fnOf "_law_due" "_law_due" (defArgs sDue) (defBody sDue) (defScope sDue) .none kVD dcD pmD anD cdD ctD), slD⟩) (cD : PySem.W.codeIn K cdD "_law_due" = true) (kD : PySem.W.keepIn K (.ref fD) = true)
    (aR : PySem.W.nsIn K mainGlobals "_law_right" = some (some (.ref fR))) (lR : K.lookup fR = some ⟨ocR, odR, .func (PySem.W.fnOf "_law_right" "_law_right" (defArgs sRight) (defBody sRight) (defScope sRight) .none kVR dcR pmR anR cdR ctR), slR⟩) (cR : PySem.W.codeIn K cdR "_law_right" = true) (kR : PySem.W.keepIn K (.ref fR) = true)
    (aE : PySem.W.nsIn K mainGlobals "_law_pieces" = some (some (.ref fE))) (lE : K.lookup fE = some ⟨ocE, odE, .func (PySem.W.fnOf "_law_pieces" "_law_pieces" (defArgs sPieces) (defBody sPieces) (defScope sPieces) .none kVE dcE pmE anE cdE ctE), slE⟩) (cE : PySem.W.codeIn K cdE "_law_pieces" = true) (kE : PySem.W.keepIn K (.ref fE) = true)
    (aF : PySem.W.nsIn K mainGlobals "_law_far_due" = some (some (.ref fF))) (lF : K.lookup fF = some ⟨ocF, odF, .func (PySem.W.fnOf "_law_far_due" "_law_far_due" (defArgs sFarDue) (defBody sFarDue) (defScope sFarDue) .none kVF dcF pmF anF cdF ctF), slF⟩) (cF : PySem.W.codeIn K cdF "_law_far_due" = true) (kF : PySem.W.keepIn K (.ref fF) = true)
    (aZ : PySem.W.nsIn K mainGlobals "law" = some (some (.ref fZ))) (lZ : K.lookup fZ = some ⟨ocZ, odZ, .func (PySem.W.fnOf "law" "law" (defArgs sLaw) (defBody sLaw) (defScope sLaw) .none kVZ dcZ pmZ anZ cdZ ctZ), slZ⟩) (cZ : PySem.W.codeIn K cdZ "law" = true) (kZ : PySem.W.keepIn K (.ref fZ) = true)
    (y1 : PySem.W.nsIn K mainGlobals "LETTERS" = some (some (.str "abcdefghijklmnopqrstuvwxyz" t1)))
    (z1 : PySem.W.nsIn K mainGlobals "isinstance" = some none) (z2 : PySem.W.nsIn K mainGlobals "str" = some none) (z3 : PySem.W.nsIn K mainGlobals "all" = some none) (z4 : PySem.W.nsIn K mainGlobals "len" = some none) (z5 : PySem.W.nsIn K mainGlobals "int" = some none) (z6 : PySem.W.nsIn K mainGlobals "min" = some none) (z7 : PySem.W.nsIn K mainGlobals "max" = some none) (z8 : PySem.W.nsIn K mainGlobals "range" = some none) (z9 : PySem.W.nsIn K mainGlobals "list" = some none) (z10 : PySem.W.nsIn K mainGlobals "zip" = some none) :
    ∃ fd : FuncData, (∀ (s : Shared) (v : Value), BindsTo s fd ⟨[v], []⟩ [("_law_script", v)]) ∧ ∀ base : Heap, K.In base → base.Ns mainGlobals mg → FnOk l.prog w K mg base CX0 5 fa fd ["_law_script"] (spLaw K) := by
  have e := hfa.symm.trans (PySem.W.mg_of X G aZ)
  cases e
  have TU : TxtU K mg := ⟨PySem.W.mg_none_of X G z5, PySem.W.mg_none_of X G z4⟩
  have TI : TxtI K mg := ⟨PySem.W.mg_none_of X G z1, PySem.W.mg_none_of X G z2, PySem.W.mg_none_of X G z3, ⟨_, PySem.W.mg_of X G y1, ⟨_, rfl⟩⟩⟩
  have TP : TxtP K mg := ⟨PySem.W.mg_none_of X G z4, PySem.W.mg_none_of X G z8⟩
  have TB : TxtB K mg := ⟨PySem.W.mg_none_of X G z4, PySem.W.mg_none_of X G z8⟩
  have TS : TxtS K mg := ⟨PySem.W.mg_none_of X G z4, PySem.W.mg_none_of X G z8, PySem.W.mg_none_of X G z7⟩
  have TA : TxtA K mg := ⟨PySem.W.mg_none_of X G z8⟩
  have TR : TxtR K mg := ⟨PySem.W.mg_none_of X G z10⟩
  have TL : TxtL K mg := ⟨PySem.W.mg_none_of X G z4, PySem.W.mg_none_of X G z8, PySem.W.mg_none_of X G z7, PySem.W.mg_none_of X G z6, PySem.W.mg_none_of X G z9⟩
  have FIT := fun_mk (st := sIsText) lIT cIT kIT
  have FCT := fun_mk (st := sCkText) lCT cCT kCT
  have FS := fun_mk (st := pStatistics) lS cS kS
  have FW := fun_mk (st := sWell) lW cW kW
  have FP := fun_mk (st := sPull) lP cP kP
  have FI := fun_mk (st := sPick) lI cI kI
  have FT := fun_mk (st := sText) lT cT kT
  have FA := fun_mk (st := sAll) lA cA kA
  have FD := fun_mk (st := sDue) lD cD kD
  have FR := fun_mk (st := sRight) lR cR kR
  have FE := fun_mk (st := sPieces) lE cE kE
  have FF := fun_mk (st := sFarDue) lF cF kF
  have FZ := fun_mk (st := sLaw) lZ cZ kZ
  have bIT := FIT.binds (ps := ["value"]) fun _ _ _ _ _ _ us hl => match us, hl with | [_], _ => rfl
  have bCT := FCT.binds (ps := ["text"]) fun _ _ _ _ _ _ us hl => match us, hl with | [_], _ => rfl
  have bS := FS.binds (ps := ["text", "other"]) fun _ _ _ _ _ _ us hl => match us, hl with | [_, _], _ => rfl
  have bW := FW.binds (ps := ["_law_script", "_law_k"]) fun _ _ _ _ _ _ us hl => match us, hl with | [_, _], _ => rfl
  have bP := FP.binds (ps := ["_law_well_here", "_law_bound"]) fun _ _ _ _ _ _ us hl => match us, hl with | [_, _], _ => rfl
  have bI := FI.binds (ps := ["_law_well_here", "_law_some"]) fun _ _ _ _ _ _ us hl => match us, hl with | [_, _], _ => rfl
  have bT := FT.binds (ps := ["_law_well_here", "_law_most"]) fun _ _ _ _ _ _ us hl => match us, hl with | [_, _], _ => rfl
  have bA := FA.binds (ps := ["_law_letters", "_law_most"]) fun _ _ _ _ _ _ us hl => match us, hl with | [_, _], _ => rfl
  have bD := FD.binds (ps := ["_law_text_here", "_law_other"]) fun _ _ _ _ _ _ us hl => match us, hl with | [_, _], _ => rfl
  have bR := FR.binds (ps := ["_law_text_here", "_law_other"]) fun _ _ _ _ _ _ us hl => match us, hl with | [_, _], _ => rfl
  have bE := FE.binds (ps := ["_law_well_here", "_law_text_here", "_law_most"]) fun _ _ _ _ _ _ us hl => match us, hl with | [_, _, _], _ => rfl
  have bF := FF.binds (ps := ["_law_text_here", "_law_other"]) fun _ _ _ _ _ _ us hl => match us, hl with | [_, _], _ => rfl
  have gIT := PySem.W.mg_of X G aIT
  have gCT := PySem.W.mg_of X G aCT
  have gS := PySem.W.mg_of X G aS
  have gW := PySem.W.mg_of X G aW
  have gP := PySem.W.mg_of X G aP
  have gI := PySem.W.mg_of X G aI
  have gT := PySem.W.mg_of X G aT
  have gA := PySem.W.mg_of X G aA
  have gD := PySem.W.mg_of X G aD
  have gR := PySem.W.mg_of X G aR
  have gE := PySem.W.mg_of X G aE
  have gF := PySem.W.mg_of X G aF
  have gZ := PySem.W.mg_of X G aZ
  refine ⟨PySem.W.fnOf "law" "law" (defArgs sLaw) (defBody sLaw) (defScope sLaw) .none kVZ dcZ pmZ anZ cdZ ctZ, fun s v => .of_eq rfl, fun base _ _ => ?_⟩
  have GIT : FnOk l.prog w K mg base CX0 1 fIT _ ["value"] (spTx) := ok_IT FIT TI
  have GCT : FnOk l.prog w K mg base CX0 2 fCT _ ["text"] (spCT) := ok_CT FCT GIT gIT kIT bIT
  have GS : FnOk l.prog w K mg base CX0 3 fS _ ["text", "other"] (spTell) := ok_ST FS TS GCT gCT kCT bCT
  have GW : FnOk l.prog w K mg base CX0 1 fW _ ["_law_script", "_law_k"] (spWell K) := ok_well FW TU
  have GP : FnOk l.prog w K mg base CX0 1 fP _ ["_law_well_here", "_law_bound"] (spPull) := ok_pull FP TU
  have GI : FnOk l.prog w K mg base CX0 2 fI _ ["_law_well_here", "_law_some"] (spPick) := ok_pick FI TP GP gP kP bP
  have GT : FnOk l.prog w K mg base CX0 3 fT _ ["_law_well_here", "_law_most"] (spText) := ok_text FT TP GP gP kP bP GI gI kI bI
  have GA : FnOk l.prog w K mg base CX0 1 fA _ ["_law_letters", "_law_most"] (spAll) := ok_ALL FA TA
  have GD : FnOk l.prog w K mg base CX0 1 fD _ ["_law_text_here", "_law_other"] (spTell) := ok_DUE FD TB
  have GF : FnOk l.prog w K mg base CX0 1 fF _ ["_law_text_here", "_law_other"] (spTell) := ok_FAR FF TB
  have GR : FnOk l.prog w K mg base CX0 4 fR _ ["_law_text_here", "_law_other"] (spRight) := ok_RIG FR TR GS gS kS bS GD gD kD bD
  have GE : FnOk l.prog w K mg base CX0 3 fE _ ["_law_well_here", "_law_text_here", "_law_most"] (spPieces) := ok_PIE FE TB GP gP kP bP GI gI kI bI
  exact ok_law FZ TL GS gS kS bS GD gD kD bD GF gF kF bF GR gR kR bR GE gE kE bE GT gT kT bT GA gA kA bA GW gW kW bW GP gP kP bP
theorem walk {l : PySem.W.OpenLaw} {q : Program} {loose : List Str} {XP : (Str → Option Value) → Heap → Prop} {YP : World → Heap → Prop} {d : DefRec} {K : Params → PySem.W.Frag} (hn : l.most = some 63) (hdf : d.params.defaults = [])
    (hY : ∀ (w : World) (h : Heap), YP w h → (K w.params).In h)
    (F : ∀ (w : World) (mg : Str → Option Value) (fa : Addr) (h : Heap), (K w.params).In h → h.Ns mainGlobals mg → mg d.name = some (.ref fa) →
      ∃ fd : FuncData, (∀ (s : Shared) (u : Value), BindsTo s fd ⟨[u], []⟩ [("_law_script", u)]) ∧ ∀ base : Heap, (K w.params).In base → base.Ns mainGlobals mg → FnOk l.prog w (K w.params) mg base CX0 5 fa fd ["_law_script"] (spLaw (K w.params))) :
    PySem.W.WalkO q loose XP YP l.row.toRowW d [] (fun f vs => PySem.call f vs) :=
  L2.walk_of (n := 63) (k := 5) (x := "_law_script") (CX := fun _ => CX0) (sp := fun w => spLaw (K w.params)) hn (by decide) hdf ⟨rfl, by decide, by decide⟩ hY F (fun _ _ a ns hl _ hS => ⟨a, ns, rfl, hS, hl, fun _ => rfl⟩) fun _ _ _ _ _ z => z
end T46
open PySem PySem.W PyProof.Rows
set_option maxRecDepth 100000 in
set_option maxHeartbeats 0 in
theorem PySem.Challenge.cw_turnindex_k46_whole_statistics_of_texts_holds : PySem.Challenge.rw_turnindex_k46_whole_statistics_of_texts.Holds := by
  w_on; o_law; k_head; (case hw => w_witness2)
  k_fill
  refine T46.walk (l := PySem.Challenge.rw_turnindex_k46_whole_statistics_of_texts) rfl rfl (fun w h Y => PySem.W.kIn_of Y) ?F
  case F =>
    intro w mg fa h KX G hmg
    refine' T46.all_mk KX G hmg   ?paIT ?plIT ?pcIT ?pkIT ?paCT ?plCT ?pcCT ?pkCT ?paS ?plS ?pcS ?pkS ?paW ?plW ?pcW ?pkW ?paP ?plP ?pcP ?pkP ?paI ?plI ?pcI ?pkI ?paT ?plT ?pcT ?pkT ?paA ?plA ?pcA ?pkA ?paD ?plD ?pcD ?pkD ?paR ?plR ?pcR ?pkR ?paE ?plE ?pcE ?pkE ?paF ?plF ?pcF ?pkF ?paZ ?plZ ?pcZ ?pkZ ?y1 ?z1 ?z2 ?z3 ?z4 ?z5 ?z6 ?z7 ?z8 ?z9 ?z10
    (case paIT => k_is); (case plIT => k_is); (case pcIT => k_is); (case pkIT => k_is)
    (case paCT => k_is); (case plCT => k_is); (case pcCT => k_is); (case pkCT => k_is)
    (case paS => k_is); (case plS => k_is); (case pcS => k_is); (case pkS => k_is)
    (case paW => k_is); (case plW => k_is); (case pcW => k_is); (case pkW => k_is)
    (case paP => k_is); (case plP => k_is); (case pcP => k_is); (case pkP => k_is)
    (case paI => k_is); (case plI => k_is); (case pcI => k_is); (case pkI => k_is)
    (case paT => k_is); (case plT => k_is); (case pcT => k_is); (case pkT => k_is)
    (case paA => k_is); (case plA => k_is); (case pcA => k_is); (case pkA => k_is)
    (case paD => k_is); (case plD => k_is); (case pcD => k_is); (case pkD => k_is)
    (case paR => k_is); (case plR => k_is); (case pcR => k_is); (case pkR => k_is)
    (case paE => k_is); (case plE => k_is); (case pcE => k_is); (case pkE => k_is)
    (case paF => k_is); (case plF => k_is); (case pcF => k_is); (case pkF => k_is)
    (case paZ => k_is); (case plZ => k_is); (case pcZ => k_is); (case pkZ => k_is)
    (case y1 => k_is)
    (case z1 => k_is); (case z2 => k_is); (case z3 => k_is); (case z4 => k_is); (case z5 => k_is); (case z6 => k_is); (case z7 => k_is); (case z8 => k_is); (case z9 => k_is); (case z10 => k_is)
