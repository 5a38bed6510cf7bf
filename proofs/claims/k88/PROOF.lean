import PyProof.Rows.All
import Wide.All
import OpenK.AllK
import Wide.FinOn
import KE.KExcSuper
import HandS.ForMost
import HandS.Exc
import HandS.ExcInit
import HandS.ExcField
import HandS.ExcValue
import HandS.Style
import HandS.Walk
import HandS.IsInst
import HandS.More
import KE.KExcIs
import PyProof.NeKinds
import KE.KEqDict
import HandS.ExcIs
import HandS.Wide
import HandS.Gcd
import HandS.TryOnly
import KE.KMathGC
import PyProof.AutoIntOps
import HandS.TryMany
import HandS.Lambda
import HandS.EndTab
import HandS.CallLocal
import HandS.DictSubView
import HandS.Sort
import KE.KDictList
import HandS.Codes
import HandS.WordsExc
import HandS.Strs
import KE.SortData
import KE.DataMinMax
import PyProof.StrWalks
import PyProof.StrBlock2
import PyProof.FitsStr
import HandS.Comp
import HandS.Words
import KE.KEqSeq
import HandS.TupAny
import PySem.Challenge.RW_turnindex_k88_least_runs_of_rings
set_option Elab.async false
set_option linter.all false
set_option maxRecDepth 100000
set_option maxHeartbeats 4000000
/-! ErrKit: an error class of the program: __init__ says super().__init__(text), then keeps its one value. -/
namespace EK
open PySem PySem.W PySem.Calls PyProof.Rows PySem.HandSPX L2
/-! ### the text of such an __init__ -/
def eArgs (f : Str) (p1 p2 : Pos) : Arguments := { posonlyargs := [], args := [{ arg := "self", annotation := none, pos := p1 }, { arg := f, annotation := none, pos := p2 }], vararg := none, kwonlyargs := [], kw_defaults := [], kwarg := none, defaults := [] }
def eBody (f msg : Str) (a1 a2 a3 a4 a5 a6 b1 b2 b3 b4 : Pos) : List Stmt :=
  [.Expr (.Call (.Attribute (.Call (.Name "super" a1) [] [] a2) "__init__" a3) [.Constant (.str msg) 0 a4] [] a5) a6, .Assign [.Attribute (.Name "self" b1) f b2] (.Name f b3) b4]
def eScope (f : Str) : Scope := { kind := .function, names := [(PySem.Str.ofString "self", .local), (f, .local), (PySem.Str.ofString "__class__", .free), (PySem.Str.ofString "super", .globalImplicit)], isGenerator := false, isCoroutine := false, more := [] }

/-- the row super().__init__(msg) of the text, as a call of a method -/
def SupCall (a1 a2 a3 a4 a5 : Pos) (msg : Str) (env : Env) : Prop := ∃ pl : Sem Bool,
  eval (.Call (.Attribute (.Call (.Name "super" a1) [] [] a2) "__init__" a3) [.Constant (.str msg) 0 a4] [] a5) env = (do
    let ov ← attributeBase (.Call (.Name "super" a1) [] [] a2) "__init__" env (eval (.Call (.Name "super" a1) [] [] a2) env)
    standAt a3.atName
    let (g, first) ← holding [ov] (getMethod ov "__init__" pl)
    callWith a5 g first (backTo a5 (starEach [.Constant (.str msg) 0 a4] env)) [])
/-- what the top has written of the class x at C, of its __init__ at fI -/
structure ErrTxt (P : Program) (K : Frag) (mg : Str → Option Value) (x f : Str) (C fI : Addr) : Prop where
  gC : mg x = some (.ref C)
  cls : ∃ nm q N bs bm sn sub ab col dd k0 k1 k2 k3 k5, K.lookup C = some (excClassObj nm q C N bs bm true sn sub ab col dd k0 k1 k2 k3 k5 "ValueError.__new__") ∧ refsVE bm = true
  sa : findIn K (.ref C) "__setattr__" = some (some (.builtin "object.__setattr__"))
  ga : findIn K (.ref C) "__getattribute__" = some (some (.builtin "BaseException.__getattribute__"))
  gg : findIn K (.ref C) "__getattr__" = some none
  noN : findIn K (.ref C) f = some none
  iC : findIn K (.ref C) "__init__" = some (some (.ref fI))
  tC : typeIn K (.ref fI) = some (.type "function")
  kC : keepIn K (.ref C) = true
  exC : subIn K (.ref C) (.type "BaseException") = some true
  tyC : typeIn K (.ref C) = some (.type "type")
  hdC : hasDictIn K C = true
  te : exmOne K (.ref C) (.ref C) = some true
  hB : subIn K (.ref C) (.type "ValueError") = some true
  si : ks_superIn K C C "__init__" = some (some (.builtin "ValueError.__init__"))
  ho : nsIn K cStatics "thirdparty.any" = some none
  su : mg "super" = none
  mC : mroIn K C (.ref C) = some true
  fok : f ≠ "self" ∧ f ≠ "__class__" ∧ f ≠ "super" ∧ f ≠ "__debug__"
  top : (P.main.scope.names.lookup ("super" : Str)).isSome = false
  fn : ∃ (oc : Value) (od : Option Addr) (qn msg : Str) (doc pm : Value) (an : Option Addr) (cda cc : Addr) (ct : Value) (osl : Array (Option Value)) (p1 p2 a1 a2 a3 a4 a5 a6 b1 b2 b3 b4 : Pos),
    K.lookup fI = some ⟨oc, od, .func (ksFn "__init__" qn (eArgs f p1 p2) (eBody f msg a1 a2 a3 a4 a5 a6 b1 b2 b3 b4) (eScope f) .none .none doc pm an (.ref cda) ct cc), osl⟩ ∧ codeIn K (.ref cda) qn = true ∧
    (∀ u v : Value, bindArgs (ksFn "__init__" qn (eArgs f p1 p2) (eBody f msg a1 a2 a3 a4 a5 a6 b1 b2 b3 b4) (eScope f) .none .none doc pm an (.ref cda) ct cc) ⟨[u, v], []⟩ = pure [(("self" : Str), u), (f, v)]) ∧
    (∀ L : Addr, SupCall a1 a2 a3 a4 a5 msg (callEnv (ksFn "__init__" qn (eArgs f p1 p2) (eBody f msg a1 a2 a3 a4 a5 a6 b1 b2 b3 b4) (eScope f) .none .none doc pm an (.ref cda) ct cc) L fI)) ∧
    (∃ (ccl : Value) (cdd : Option Addr) (ccs : Array (Option Value)) (vs : Array Value) (file : Str) (tf : Tok), K.lookup cda = some ⟨ccl, cdd, .fields vs, ccs⟩ ∧ vs[2]? = some (.str file tf) ∧ ((P.main.file : Str) == file) = true) ∧
    ∃ (cl : Value) (cld : Option Addr) (csl : Array (Option Value)), K.lookup cc = some ⟨cl, cld, .cell (some (.ref C)), csl⟩
theorem one_size (v : Value) : [v].length ≤ sizeLine := by
  rw [sizeLine_eq]
  exact (by decide : 1 ≤ 16777216)
/-- what __init__ leaves of the exception at y -/
structure MadeI (h h' : Heap) (y C dx : Addr) (f : Str) (v : Value) : Prop where
  keep : ∀ b o, b ≠ y → h.get? b = some o → h'.get? b = some o
  obj : ∃ t1 : Addr, h'.get? y = some { cls := .ref C, dict := some dx, data := .fields #[.ref t1, .none, .none, .none, .bool false, .none] }
  dbig : h.objs.size ≤ dx
  dne : dx ≠ y
  ns : h'.Ns1 dx (fun z => if z = f then some v else none)
theorem kept_but {K : Frag} {h h' : Heap} {x : Addr} (X : K.In h) (hx : K.lookup x = none) (k : ∀ b o, b ≠ x → h.get? b = some o → h'.get? b = some o) : K.In h' := fun a o e =>
  k a o (fun z => by rw [z, hx] at e; cases e) (X a o e)
section
variable {prog : Program} {w : World} {A : Around} {E : Value → Shared → Prop} {R : Result → Shared → Prop} {s : Shared} {K : Frag} {mg : Str → Option Value} {C fI : Addr} {x f : Str}
/-- the method-wrapper that super().__init__ gives is called -/
theorem call_mw {u e t0 : Addr} {rest : List Value} {nm q : Str} {C N : Addr} {bs bm : List Value} {hdct : Bool} {sn : List Str} {sub : List Value} {ab : Bool} {col : Option Bool} {dd : Option Addr} {k0 k1 k2 k3 k5 : Option Value} {Q : Value → Shared → Prop}
    (hC : s.heap.get? C = some (excClassObj nm q C N bs bm hdct sn sub ab col dd k0 k1 k2 k3 k5 "ValueError.__new__")) (he : s.heap.get? e = some (excO C t0)) (hu : s.heap.get? u = some (kxs_mw "ValueError.__init__" e)) (hrest : rest.length ≤ sizeLine)
    (hq : ∀ h' t1, (∀ b o, b ≠ e → s.heap.get? b = some o → h'.get? b = some o) → h'.get? e = some (excO C t1) → Q .none { s with heap := h' }) :
    wpAny (model prog w) A (call (.ref u) rest) Q E s := by
  obtain ⟨hh, g, d, tk, os⟩ := s
  refine wpAny_call (codeAny_of_tree ?_)
  show wpAny _ A.in1 (callAny (.ref u) ⟨rest, []⟩) _ _ _
  simp only [callAny]
  refine wpAny_bind (wpAny_load hu ?_)
  simp only [kxs_mw, show (Value.type "method-wrapper" == Value.type "method" || Value.type "method-wrapper" == Value.type "builtin_function_or_method" || Value.type "method-wrapper" == Value.type "method-wrapper") = true by decide, if_true]
  refine KFB.if_so (by decide) ?_
  refine wpAny_bind (check_bound_init F.excBase_ValueError.toExcCallFacts hC he rfl ?_)
  refine wpAny_bind (wpAny_pure (wpAny_pure ?_))
  refine ⟨plainId_quiet F.excBase_ValueError.init.plain _, codeAny_builtin F.excBase_ValueError.initEntry ?_⟩
  exact exc_init_tree (cls := .ref C) (t0 := t0) (dv := none) (c2 := .none) (c3 := .none) (b4 := .bool false) he hrest fun h' k o _ => hq h' _ k o
theorem look_self (f : Str) : (eScope f).names.lookup ("self" : Str) = some .local := by
  show List.lookup ("self" : Str) ((("self" : Str), NameKind.local) :: _) = _
  rw [List.lookup_cons]
  simp
theorem look_f {f : Str} (h : f ≠ "self") : (eScope f).names.lookup f = some .local := by
  have e : (f == ("self" : Str)) = false := by simpa using h
  show List.lookup f ((("self" : Str), NameKind.local) :: (f, NameKind.local) :: _) = _
  rw [List.lookup_cons, e, List.lookup_cons]
  simp
theorem look_cls {f : Str} (h : f ≠ "__class__") : (eScope f).names.lookup ("__class__" : Str) = some .free := by
  have e : ((("__class__" : Str)) == f) = false := by simpa using Ne.symm h
  have e2 : ((("__class__" : Str)) == ("self" : Str)) = false := by decide +kernel
  show List.lookup ("__class__" : Str) ((("self" : Str), NameKind.local) :: (f, NameKind.local) :: (("__class__" : Str), NameKind.free) :: _) = _
  rw [List.lookup_cons, e2, List.lookup_cons, e, List.lookup_cons]
  simp
theorem look_super {f : Str} (h : f ≠ "super") : (eScope f).names.lookup ("super" : Str) = some .globalImplicit := by
  have e : ((("super" : Str)) == f) = false := by simpa using Ne.symm h
  have e2 : ((("super" : Str)) == ("self" : Str)) = false := by decide +kernel
  have e3 : ((("super" : Str)) == ("__class__" : Str)) = false := by decide +kernel
  show List.lookup ("super" : Str) ((("self" : Str), NameKind.local) :: (f, NameKind.local) :: (("__class__" : Str), NameKind.free) :: (("super" : Str), NameKind.globalImplicit) :: []) = _
  rw [List.lookup_cons, e2, List.lookup_cons, e, List.lookup_cons, e3, List.lookup_cons]
  simp
theorem bl_self {f : Str} (h : f ≠ "self") (a v : Value) : List.lookup ("self" : Str) ([(("self" : Str), a), (f, v)].reverse) = some a := by
  have e : ((("self" : Str)) == f) = false := by simpa using Ne.symm h
  show List.lookup ("self" : Str) ((f, v) :: (("self" : Str), a) :: []) = _
  rw [List.lookup_cons, e, List.lookup_cons]
  simp
theorem bl_f {f : Str} (a v : Value) : List.lookup f ([(("self" : Str), a), (f, v)].reverse) = some v := by
  show List.lookup f ((f, v) :: (("self" : Str), a) :: []) = _
  rw [List.lookup_cons]
  simp
theorem err_init (T : ErrTxt prog K mg x f C fI) {y t0 : Addr} {v : Value} (X : K.In s.heap) (hlim : s.heap.NoLimit) (hg : s.heap.Ns mainGlobals mg) (hb : ∃ mb, s.heap.Ns builtinsNs mb ∧ ∀ z : Str, z ≠ "__name__" → mb z = bootBuiltins z)
    (hx : s.heap.get? y = some (excO C t0)) (hnx : K.lookup y = none) (hroom : A.depth < recursionLimit)
    (hq : ∀ h' tk dx, MadeI s.heap h' y C dx f v → R (.ok (.ret .none)) { s with heap := h', toks := tk }) :
    codeAny (model prog w) A (.call (.ref fI) ⟨[.ref y, v], []⟩) R s := by
  obtain ⟨oc, od, qn, msg, doc, pm, an, cda, cc, ct, osl, p1, p2, a1, a2, a3, a4, a5, a6, b1, b2, b3, b4, ho, hcd, hB, hS, ⟨ccl, cdd, ccs, vs, file, tf, hcda, hvs, hfile⟩, ⟨cl, cld, csl, hcell⟩⟩ := T.fn
  obtain ⟨nm, q, N, bs, bm, sn, sub, ab, col, dd, k0, k1, k2, k3, k5, hC, hbm⟩ := T.cls
  obtain ⟨mb, hbn, hbv⟩ := hb
  obtain ⟨hf1, hf2, hf3, hf4⟩ := T.fok
  have hcl : clsIn K C = some { name := nm, bases := bs, mro := .ref C :: bm, ns := N, qualname := q, hasDict := true, slotNames := sn, subclasses := sub, abstract := ab, collection := col, hasDel := false } := by unfold clsIn; rw [hC] <;> rfl
  refine ks_codeAny_call_defAt (fd := ksFn "__init__" qn (eArgs f p1 p2) (eBody f msg a1 a2 a3 a4 a5 a6 b1 b2 b3 b4) (eScope f) .none .none doc pm an (.ref cda) ct cc) (body := eBody f msg a1 a2 a3 a4 a5 a6 b1 b2 b3 b4) (binds := [(("self" : Str), Value.ref y), (f, v)]) hroom (X _ _ ho) rfl hlim (codeRec_of X hcd) rfl (BindsTo.of_eq (hB _ _)) ?_ ?_ (fun h₁ hns k => ?_) rfl rfl rfl
  · intro z hz
    rcases List.mem_cons.mp hz with rfl | hz
    · exact fun e => nomatch e
    rcases List.mem_cons.mp hz with rfl | hz
    · exact fun e => nomatch e
    rcases List.mem_cons.mp hz with rfl | hz
    · exact fun e => nomatch e
    rcases List.mem_cons.mp hz with rfl | hz
    · exact fun e => nomatch e
    · cases hz
  · intro z hz
    rcases List.mem_cons.mp hz with rfl | hz
    · exact look_self f
    rcases List.mem_cons.mp hz with rfl | hz
    · exact look_f hf1
    · cases hz
  · have X₁ : K.In h₁ := X.keeps k
    have hyL : s.heap.objs.size ≠ y := Nat.ne_of_gt (Heap.lt_size hx)
    have ks : (callEnv (ksFn "__init__" qn (eArgs f p1 p2) (eBody f msg a1 a2 a3 a4 a5 a6 b1 b2 b3 b4) (eScope f) .none .none doc pm an (.ref cda) ct cc) s.heap.objs.size fI).kindOf "super" = some .globalImplicit := look_super hf3
    obtain ⟨oD, hD⟩ : ∃ oD, h₁.get? C = some oD ∧ ∃ cd : ClassData, oD.data = .cls cd := ⟨_, X₁ _ _ hC, _, rfl⟩
    obtain ⟨hD1, cdD, hD2⟩ := hD
    have IY : ∀ {h : Heap}, h.get? y = some (excO C t0) → InstAt h y (excO C t0) C none := fun e => ⟨e, rfl, rfl, trivial⟩
    have hyC : y ≠ C := fun z => by rw [z, hC] at hnx; cases hnx
    obtain ⟨pl, hpl⟩ := hS s.heap.objs.size
    refine ks_wpAt_execs_cons (ks_wpAt_Expr_any (ks_wpAt_MethodCall ?_ hpl) (by rfl) (by rfl))
    refine ks_wpAt_super_base ks (look_cls hf2) (by decide +kernel) rfl (X₁ _ _ ho) rfl rfl rfl (X₁ _ _ hcda) rfl hvs hfile T.top ?_
    refine ks_loadName_global rfl ks (loadGlobal_builtin (hg.keeps k) T.su (hbn.keeps k) (hbv _ (by decide +kernel)) ⟨by rfl, ?_⟩)
    refine wpAny_loadName_free rfl (look_cls hf2) rfl ⟨_, X₁ _ _ hcell, rfl⟩ ?_
    refine wpAny_loadName_local rfl (look_self f) hns (bl_self hf1 _ _) ?_
    refine ks_wpAny_isType_cls hD1 hD2 ⟨rfl, ?_⟩
    refine ks_wpAny_call_super hD1 hD2 (k _ _ hx) rfl (fun c e => nomatch e) (looks_mroIn X₁ T.mC) (fun h2 hso k2 => ?_)
    have X2 : K.In h2 := X₁.keeps k2
    refine kxs_getMethod kxs_ValueError hso (looks_opaque X2 T.ho) (l₀ := .ref C :: bm) ((looks_clsIn X2 hcl).andThen .now) rfl X2 ?_ ((IY (k2 _ _ (k _ _ hx))).type.andThen (looks_subIn X2 T.hB)) hyC (by decide +kernel) ?_
    · have e := T.si
      unfold ks_superIn at e
      rw [hcl] at e
      exact e
    have k3 : ∀ b o, h2.get? b = some o → (h2.push (kxs_mw "ValueError.__init__" y)).get? b = some o := fun b o e => Heap.get?_push_of_some _ e
    have hu : (h2.push (kxs_mw "ValueError.__init__" y)).get? h2.objs.size = some (kxs_mw "ValueError.__init__" y) := Heap.get?_push_at rfl rfl
    refine kxs_callWith (i := "ValueError.__init__") (x := y) (by rfl) (evalArgs_plain (Calls.spliced_cons (Calls.Constant_str (k := 0) (pos := a4) (Calls.spliced_nil ⟨hu, ?_⟩))))
    refine call_mw (X2.keeps k3 _ _ hC) (k3 _ _ (k2 _ _ (k _ _ hx))) hu (one_size _) fun h4 t1 k4 hy4 => ?_
    have X4 : K.In h4 := kept_but (X2.keeps k3) hnx k4
    have kk : ∀ b o, b ≠ y → h₁.get? b = some o → h4.get? b = some o := fun b o n e => k4 b o n (k3 b o (k2 b o e))
    have n4 : h4.Ns s.heap.objs.size fun z => [(("self" : Str), Value.ref y), (f, v)].reverse.lookup z := by
      obtain ⟨o, es, ep, e1, r⟩ := hns
      exact ⟨o, es, ep, kk _ _ hyL e1, r⟩
    have hfd : (f == ("__debug__" : Str)) = false := by simpa using hf4
    refine wpAt_of_wpAny (wpAny_execs_cons (plainObj_wpAny_Assign_Attribute ?_))
    refine wpAny_Name (wpAny_loadName_local rfl (look_f hf1) n4 (bl_f _ _) ?_) hfd
    refine wpAny_Name (wpAny_loadName_local rfl (look_self f) n4 (bl_self hf1 _ _) ?_) (by decide +kernel)
    refine set_plain X4 (ox := excO C t1) (od := none) ⟨hy4, rfl, rfl, trivial⟩ T.sa ?_
    refine exc_osa X4 hy4 hcl (show refsVE (.ref C :: bm) = true from hbm) rfl T.noN (fun h5 tk5 dx k5 dn dne hx5 hn5 => ?_)
    refine wpAny_execs_nil (hq h5 tk5 dx ⟨fun b o hb e => k5 b o hb (kk b o hb (k b o e)), ⟨_, hx5⟩, ?_, dne, hn5⟩)
    have z1 : s.heap.objs.size < h4.objs.size := n4.lt
    exact Nat.le_of_lt (Nat.lt_of_lt_of_le z1 dn)
/-- an error that was made: the object at e, its own dict at d -/
structure MadeE (h h' : Heap) (e C d : Addr) (f : Str) (v : Value) : Prop where
  keep : ∀ b o, h.get? b = some o → h'.get? b = some o
  new : h.objs.size ≤ e
  obj : ∃ t1 : Addr, h'.get? e = some { cls := .ref C, dict := some d, data := .fields #[.ref t1, .none, .none, .none, .bool false, .none] }
  dbig : h.objs.size ≤ d
  dne : d ≠ e
  ns : h'.Ns1 d (fun z => if z = f then some v else none)
theorem not_in {K : Frag} {h : Heap} {a : Addr} (X : K.In h) (ha : h.objs.size ≤ a) : K.lookup a = none := by
  cases e : K.lookup a with
  | none => rfl
  | some o => exact absurd (Nat.lt_of_lt_of_le (Heap.lt_size (X _ _ e)) ha) (Nat.lt_irrefl _)
theorem err_made (T : ErrTxt prog K mg x f C fI) {v : Value} (X : K.In s.heap) (hlim : s.heap.NoLimit) (hg : s.heap.Ns mainGlobals mg) (hb : ∃ mb, s.heap.Ns builtinsNs mb ∧ ∀ z : Str, z ≠ "__name__" → mb z = bootBuiltins z)
    (hroom : A.depth + 1 < recursionLimit) (hq : ∀ h' tk e d, MadeE s.heap h' e C d f v → R (.ok (.ret (.ref e))) { s with heap := h', toks := tk }) :
    codeAny (model prog w) A (.call (.ref C) ⟨[v], []⟩) R s := by
  obtain ⟨nm, q, N, bs, bm, sn, sub, ab, col, dd, k0, k1, k2, k3, k5, hC, hbm⟩ := T.cls
  obtain ⟨mb, hbn, hbv⟩ := hb
  obtain ⟨hp, g, dr, tk, os⟩ := s
  have k : ∀ b o, hp.get? b = some o → ((hp.push (kdv_tup [v])).push (excO C hp.objs.size)).get? b = some o := fun b o e => Heap.get?_push_of_some _ (Heap.get?_push_of_some _ e)
  have hget : ((hp.push (kdv_tup [v])).push (excO C hp.objs.size)).get? (hp.objs.size + 1) = some (excO C hp.objs.size) := by heap_get
  have hnx : K.lookup (hp.objs.size + 1) = none := not_in X (Nat.le_succ _)
  refine call_own F.excBase_ValueError (fun X => refsVE_contains X bm hbm) (X _ _ hC) (looks_findIn X T.iC) (fun self => bind_fn X self T.tC) (one_size v) ?_
  refine err_init (s := ⟨(hp.push (kdv_tup [v])).push (excO C hp.objs.size), g, dr, tk, os⟩) T (X.keeps k) (hlim.keeps k) (hg.keeps k) ⟨mb, hbn.keeps k, hbv⟩ hget hnx ?_ fun h' tk' dx ⟨k', ⟨t1, hx⟩, dn, dne, hns⟩ => ?_
  · show A.depth + 1 < recursionLimit
    exact hroom
  · have old : ∀ b o, hp.get? b = some o → h'.get? b = some o := fun b o e => k' b o (Nat.ne_of_lt (Nat.lt_succ_of_lt (Heap.lt_size e))) (k b o e)
    have z : hp.objs.size + 1 + 1 ≤ dx := by
      have q := dn
      rw [Heap.size_push, Heap.size_push] at q
      exact q
    exact ⟨rfl, hq h' tk' (hp.objs.size + 1) dx ⟨old, Nat.le_succ _, ⟨t1, hx⟩, Nat.le_trans (Nat.le_trans (Nat.le_succ _) (Nat.le_succ _)) z, dne, hns⟩⟩
end
end EK
namespace L2
open PySem PySem.Spec PyProof.Rows EK
theorem relO_one {f : Str} {v : V} {u : Value} (r : RelV v u) (g : Str) : RelO (List.lookup g [(f, v)]) (if g = f then some u else none) := relO_put (fs := []) (mA := fun _ => none) r (fun _ => True.intro) g
section
variable {X : Cx} {C fI : Addr} {x f : Str}
/-- x(e) as a value: a new error at a, its dict at d -/
def tErrV (C : Addr) (f : Str) (ta : TA) : TE := fun σ H Q => ta σ H fun vs H1 => ∃ v, vs = [v] ∧ ∀ a d, H1 a = none → H1 d = none → d ≠ a → Q (.ref a) (upd (upd H1 d (exd d [(f, v)])) a (exo a C (some d)))
theorem pe_errV {a : Expr} {ta : TA} {p pos : Pos} {k : Nat} (T : ErrTxt X.prog X.K X.mg x f C fI) (hr : Room k X.A) (ha : PA X [a] ta) (hg : Gl X x) (hd : (x == ("__debug__" : Str)) = false := by decide)
    (he : starEach (a :: []) X.env = (false, eval a X.env) :: starEach [] X.env := by rfl) (hpl : (backTo pos (starEach [] X.env)).any (·.1) = false := by rfl) :
    PE X (.Call (.Name x p) [a] [] pos) (tErrV C f ta) := by
  refine ⟨fun pins s σ H Q I h => ?_⟩
  refine wpAny_Call_Name_kw (ld_glob I hg T.gC ?_ hd)
  refine PySem.W.callWith_K (h₀ := X.base) I.ok.mod.kin T.kC (thn (ha.run pos pins s σ H _ I h) fun us s1 hh => ?_) he hpl
  obtain ⟨vs, H1, I1, r1, v, ev, q1⟩ := hh
  subst ev
  refine ⟨I1.kIn, ?_⟩
  cases r1 with
  | cons rv rn =>
    rename_i v' us'
    cases rn
    show wpAny _ _ (call (.ref C) [v']) _ _ _
    have hlim := I1.nolimit
    obtain ⟨hp, g, dr, tk, os⟩ := s1
    obtain ⟨mb, hb1, hb2⟩ := I1.mod.blt
    refine wpAny_call (err_made T I1.kIn hlim (I1.mod.glob.keeps I1.bk) ⟨mb, hb1.keeps I1.bk, hb2⟩ (by have := hr.dp; omega) fun h' tk' e d M => ?_)
    obtain ⟨t1, hoe⟩ := M.obj
    have nd : H1 d = none := I1.hok.fresh M.dbig
    have ne : H1 e = none := I1.hok.fresh M.new
    obtain ⟨G, g1, g2⟩ := restrict h' fun b => decide (b ≠ e)
    have gk : ∀ b, b ≠ e → G.get? b = h'.get? b := fun b hb => g1 b (decide_eq_true hb)
    have ge : G.get? e = none := g2 e (by simp)
    have old : ∀ b o, hp.get? b = some o → G.get? b = some o := fun b o q => (gk b (Nat.ne_of_lt (Nat.lt_of_lt_of_le (Heap.lt_size q) M.new))).trans (M.keep b o q)
    have gs : ∀ b o, G.get? b = some o → h'.get? b = some o := fun b o q => by
      by_cases hbe : b = e
      · rw [hbe, ge] at q
        cases q
      · exact (gk b hbe).symm.trans q
    have J : Inv X pins σ (upd H1 d (exd d [(f, v)])) ⟨G, g, dr, tk', os⟩ := I1.laid (t' := tk') old M.dbig (exd_ok (M.ns.at fun o q => (gk d M.dne).trans q) (relO_one rv))
    have hne : (upd H1 d (exd d [(f, v)])) e = none := by
      rw [upd_ne (Ne.symm M.dne)]
      exact ne
    exact ⟨.ref e, _, J.laidN (t' := tk') gs ge hne (exo_ok hoe), rfl, q1 e d ne nd M.dne⟩
/-- a field of an error, read -/
def tErrF (K : PySem.W.Frag) (f : Str) (te : TE) : TE := fun σ H Q => te σ H fun x H1 => ∃ (a C d : Addr) (fs : List (Str × V)) (v : V), x = .ref a ∧ H1 a = some (exo a C (some d)) ∧ H1 d = some (exd d fs) ∧ XfC K C ∧ PySem.W.findIn K (.ref C) f = some none ∧ fs.lookup f = some v ∧ Q v H1
theorem pe_errF {e : Expr} {te : TE} {pos : Pos} (he : PE X e te) (hb : attributeBase e f X.env (eval e X.env) = eval e X.env := by rfl) : PE X (.Attribute e f pos) (tErrF X.K f te) := by
  refine ⟨fun pins s σ H Q I h => ?_⟩
  refine attr_of hb (thn (he.run pins s σ H _ I h) fun u s1 hh => ?_)
  obtain ⟨y, H1, I1, ry, a, C, d, fs, v, ey, ea, ed, T, hno, l, q⟩ := hh
  subst ey
  obtain rfl : u = Value.ref a := ry
  obtain ⟨t1, ha⟩ := exo_at I1.hok ea
  obtain ⟨mA, hns, hr⟩ := exd_at I1.hok ed
  obtain ⟨od, ho, hl⟩ := lookIn_ns hns
  obtain ⟨u, hu, ru⟩ := RelO.some_of (v := v) (o := mA f) (by rw [← l]; exact hr f)
  have J : PySem.W.InstAt s1.heap a _ C (some od) := ⟨ha, rfl, rfl, ho⟩
  exact HandSPX.exc_get I1.kIn J T.ga T.gg T.exC (PySem.W.findObj_own T.hdC hno rfl (by rw [hl, hu])) (handed_of ru) ⟨v, H1, I1.tok _, ru, q⟩
end
end L2

set_option Elab.async false
set_option linter.all false
set_option maxRecDepth 100000
set_option maxHeartbeats 4000000
/-! EqKit: things that are told equal, whatever they hold; isinstance of errors. -/
namespace L2
open PySem PySem.Spec PyProof.Rows
/-- x and y compare equal, at most n deep: one thing, or lists, tuples of such -/
inductive Sm (K : PySem.W.Frag) (H : Hp) : Nat → V → V → Prop
  | rf {n : Nat} (x : V) (h : ∀ b, x ≠ .flt b) : Sm K H n x x
  | ls {n : Nat} {a b : Addr} {xs ys : List V} (h1 : SqL K H a xs) (h2 : SqL K H b ys) (hl : xs.length = ys.length) (h : ∀ (i : Nat) x y, xs[i]? = some x → ys[i]? = some y → Sm K H n x y) : Sm K H (n + 1) (.ref a) (.ref b)
  | tp {n : Nat} {a b : Addr} {xs ys : List V} (h1 : SqT K H a xs) (h2 : SqT K H b ys) (hl : xs.length = ys.length) (h : ∀ (i : Nat) x y, xs[i]? = some x → ys[i]? = some y → Sm K H n x y) : Sm K H (n + 1) (.ref a) (.ref b)
section
variable {X : Cx} {pins : List (Addr × Obj)} {σ : St} {H : Hp} {s : Shared}
theorem sm_items {xs ys : List V} {us vs : List Value} {A : Around} (rx : Vals xs us) (ry : Vals ys vs)
    (h : ∀ (i : Nat) x y, xs[i]? = some x → ys[i]? = some y → ∀ u v, RelV x u → RelV y v → SeqAt.EqAt A s u v true) :
    ∀ j (h1 : j < us.toArray.size) (h2 : j < vs.toArray.size), SeqAt.EqAt A s us.toArray[j] vs.toArray[j] true := by
  intro j h1 h2
  have l1 := rx.length
  have l2 := ry.length
  have j1 : j < xs.length := by rw [l1]; simpa using h1
  have j2 : j < ys.length := by rw [l2]; simpa using h2
  obtain ⟨u, e1, r1⟩ := rx.get (List.getElem?_eq_getElem j1)
  obtain ⟨v, e2, r2⟩ := ry.get (List.getElem?_eq_getElem j2)
  have f1 : us.toArray[j] = u := by
    have q : us[j]? = some (us[j]'(by simpa using h1)) := List.getElem?_eq_getElem _
    rw [e1] at q
    simpa using (Option.some.inj q).symm
  have f2 : vs.toArray[j] = v := by
    have q : vs[j]? = some (vs[j]'(by simpa using h2)) := List.getElem?_eq_getElem _
    rw [e2] at q
    simpa using (Option.some.inj q).symm
  rw [f1, f2]
  exact h j _ _ (List.getElem?_eq_getElem j1) (List.getElem?_eq_getElem j2) u v r1 r2
theorem all_true {n : Nat} : ((List.range n).all fun _ => true) = true := by
  induction n with
  | zero => rfl
  | succ n ih => simp
theorem sm_at (I : Inv X pins σ H s) : ∀ {n : Nat} {x y : V} {u v : Value} {A : Around}, Sm X.K H n x y → RelV x u → RelV y v → A.units + n < cLine → SeqAt.EqAt A s u v true := by
  intro n x y u v A h
  induction h generalizing u v A with
  | rf x hf =>
    intro r1 r2 _
    cases x with
    | non => cases r1; cases r2; exact .same _
    | bl b => cases r1; cases r2; exact .same _
    | int i =>
      obtain ⟨t, rfl⟩ := r1
      obtain ⟨t', rfl⟩ := r2
      have q := SeqAt.EqAt.int_int (A := A) (s := s) i t i t'
      rw [beq_self_eq_true] at q
      exact q
    | str z =>
      obtain ⟨t, rfl⟩ := r1
      obtain ⟨t', rfl⟩ := r2
      have q := SeqAt.EqAt.str_str (A := A) (s := s) z t z t'
      rw [beq_self_eq_true] at q
      exact q
    | byt b =>
      obtain ⟨t, rfl⟩ := (show ∃ t, u = Value.bytes b t from r1)
      obtain ⟨t', rfl⟩ := (show ∃ t, v = Value.bytes b t from r2)
      exact fun prog w E Q h => PySem.W.eqBool_bytes (by simpa using h)
    | flt b => exact absurd rfl (hf b)
    | ref a => cases r1; cases r2; exact .same _
    | ty n => cases r1; cases r2; exact .same _
  | @ls n a b xs ys h1 h2 hl _ ih =>
    intro r1 r2 hu
    cases r1; cases r2
    by_cases e : a = b
    · rw [e]; exact .same _
    · obtain ⟨us, ru, ⟨o, m, ho, hc, _, hd⟩, _⟩ := I.list h1
      obtain ⟨vs, rv, ⟨o', m', ho', hc', _, hd'⟩, _⟩ := I.list h2
      have hs : us.toArray.size = vs.toArray.size := by simp only [List.size_toArray]; rw [← ru.length, ← rv.length, hl]
      refine .of_refs e ?_
      have q := SeqAt.RcAt.lists (A := A) (s := s) (e := fun _ => true) ⟨o, ho, hc, m, hd⟩ ⟨o', ho', hc', m', hd'⟩ hs (by omega) (sm_items (A := A.in1) ru rv fun i x y e1 e2 u v s1 s2 => ih i x y e1 e2 s1 s2 (by show A.units + 1 + n < cLine; omega))
      rw [all_true] at q
      exact q
  | @tp n a b xs ys h1 h2 hl _ ih =>
    intro r1 r2 hu
    cases r1; cases r2
    by_cases e : a = b
    · rw [e]; exact .same _
    · obtain ⟨us, ru, ⟨o, ho, hc, m, hd⟩, _⟩ := I.tuple h1
      obtain ⟨vs, rv, ⟨o', ho', hc', m', hd'⟩, _⟩ := I.tuple h2
      have hs : us.toArray.size = vs.toArray.size := by simp only [List.size_toArray]; rw [← ru.length, ← rv.length, hl]
      refine .of_refs e ?_
      have q := SeqAt.RcAt.tuples (A := A) (s := s) (e := fun _ => true) ⟨o, ho, hc, m, hd⟩ ⟨o', ho', hc', m', hd'⟩ (by omega) (sm_items (A := A.in1) ru rv fun i x y e1 e2 u v s1 s2 => ih i x y e1 e2 s1 s2 (by show A.units + 1 + n < cLine; omega))
      rw [all_true, hs, beq_self_eq_true] at q
      exact q
/-- what may stand on both sides of a comparison that is told equal -/
inductive SmT (K : PySem.W.Frag) (H : Hp) : V → V → Prop
  | sc (x : V) (h : scal x x = true) : SmT K H x x
  | ls {a b : Addr} {xs ys : List V} (h1 : SqL K H a xs) (h2 : SqL K H b ys) (hl : xs.length = ys.length) (h : ∀ (i : Nat) x y, xs[i]? = some x → ys[i]? = some y → Sm K H 60 x y) : SmT K H (.ref a) (.ref b)
  | tp {a b : Addr} {xs ys : List V} (h1 : SqT K H a xs) (h2 : SqT K H b ys) (hl : xs.length = ys.length) (h : ∀ (i : Nat) x y, xs[i]? = some x → ys[i]? = some y → Sm K H 60 x y) : SmT K H (.ref a) (.ref b)
  | dk {a b : Addr} {kvs : List (Key × V)} (h1 : H a = some (.dK kvs)) (h2 : H b = some (.dK kvs)) (nd : (kvs.map (·.1)).Nodup) (fl : ∀ p ∈ kvs, flatB p.2 = true) : SmT K H (.ref a) (.ref b)
theorem op_neS (hu : X.A.units + 64 < cLine) : OpR X (compareOp .NotEq) (fun x y H Q => SmT X.K H x y ∧ Q (.bl false) H) := by
  intro pins s σ H x y v u Q I rx ry ⟨h, q⟩
  cases h with
  | sc x h => exact op_ne pins s σ H x x v u Q I rx ry ⟨h, by rw [decide_eq_true rfl]; exact q⟩
  | ls h1 h2 hl h =>
    cases rx; cases ry
    obtain ⟨us, ru, ⟨o, m, ho, hc, _, hd⟩, _⟩ := I.list h1
    obtain ⟨vs, rv, ⟨o', m', ho', hc', _, hd'⟩, _⟩ := I.list h2
    have hs : us.toArray.size = vs.toArray.size := by simp only [List.size_toArray]; rw [← ru.length, ← rv.length, hl]
    have z := SeqAt.RcNeAt.lists (A := X.A) (s := s) (e := fun _ => true) ⟨o, ho, hc, m, hd⟩ ⟨o', ho', hc', m', hd'⟩ hs (by omega) (sm_items (A := X.A.in1) ru rv fun i x y e1 e2 u v s1 s2 => sm_at I (h i x y e1 e2) s1 s2 (by show X.A.units + 1 + 60 < cLine; omega))
    rw [all_true] at z
    exact z X.prog X.w _ _ ⟨.bl false, H, I, rfl, q⟩
  | tp h1 h2 hl h =>
    cases rx; cases ry
    obtain ⟨us, ru, ⟨o, ho, hc, m, hd⟩, _⟩ := I.tuple h1
    obtain ⟨vs, rv, ⟨o', ho', hc', m', hd'⟩, _⟩ := I.tuple h2
    have hs : us.toArray.size = vs.toArray.size := by simp only [List.size_toArray]; rw [← ru.length, ← rv.length, hl]
    have z := SeqAt.RcNeAt.tuples (A := X.A) (s := s) (e := fun _ => true) ⟨o, ho, hc, m, hd⟩ ⟨o', ho', hc', m', hd'⟩ (by omega) (sm_items (A := X.A.in1) ru rv fun i x y e1 e2 u v s1 s2 => sm_at I (h i x y e1 e2) s1 s2 (by show X.A.units + 1 + 60 < cLine; omega))
    rw [all_true, hs, beq_self_eq_true] at z
    exact z X.prog X.w _ _ ⟨.bl false, H, I, rfl, q⟩
  | @dk a b kvs h1 h2 nd fl =>
    cases rx; cases ry
    obtain ⟨_, ya, va, ra, da⟩ := (show ObjOk X.prog X.w H s.heap a (.dK kvs) from I.hok a _ h1)
    obtain ⟨_, yb, vb, rb, db⟩ := (show ObjOk X.prog X.w H s.heap b (.dK kvs) from I.hok b _ h2)
    have hl : va.length = vb.length := ra.length.symm.trans rb.length
    exact PySem.W.keq_ne (knd := mixKind X.prog X.w) (r := true) ya yb da db (by omega) (fun _ => hits_all rb ra fun p hp => ⟨val_nodup nd p hp, fl p hp⟩) (fin_bl I q (by simp [hl]))
theorem op_eqS (hu : X.A.units + 64 < cLine) : OpR X (compareOp .Eq) (fun x y H Q => SmT X.K H x y ∧ Q (.bl true) H) := by
  intro pins s σ H x y v u Q I rx ry ⟨h, q⟩
  cases h with
  | sc x h => exact op_eq pins s σ H x x v u Q I rx ry ⟨h, by rw [decide_eq_true rfl]; exact q⟩
  | ls h1 h2 hl h =>
    cases rx; cases ry
    obtain ⟨us, ru, ⟨o, m, ho, hc, _, hd⟩, _⟩ := I.list h1
    obtain ⟨vs, rv, ⟨o', m', ho', hc', _, hd'⟩, _⟩ := I.list h2
    have hs : us.toArray.size = vs.toArray.size := by simp only [List.size_toArray]; rw [← ru.length, ← rv.length, hl]
    have z := SeqAt.RcAt.lists (A := X.A) (s := s) (e := fun _ => true) ⟨o, ho, hc, m, hd⟩ ⟨o', ho', hc', m', hd'⟩ hs (by omega) (sm_items (A := X.A.in1) ru rv fun i x y e1 e2 u v s1 s2 => sm_at I (h i x y e1 e2) s1 s2 (by show X.A.units + 1 + 60 < cLine; omega))
    rw [all_true] at z
    exact z X.prog X.w _ _ ⟨.bl true, H, I, rfl, q⟩
  | tp h1 h2 hl h =>
    cases rx; cases ry
    obtain ⟨us, ru, ⟨o, ho, hc, m, hd⟩, _⟩ := I.tuple h1
    obtain ⟨vs, rv, ⟨o', ho', hc', m', hd'⟩, _⟩ := I.tuple h2
    have hs : us.toArray.size = vs.toArray.size := by simp only [List.size_toArray]; rw [← ru.length, ← rv.length, hl]
    have z := SeqAt.RcAt.tuples (A := X.A) (s := s) (e := fun _ => true) ⟨o, ho, hc, m, hd⟩ ⟨o', ho', hc', m', hd'⟩ (by omega) (sm_items (A := X.A.in1) ru rv fun i x y e1 e2 u v s1 s2 => sm_at I (h i x y e1 e2) s1 s2 (by show X.A.units + 1 + 60 < cLine; omega))
    rw [all_true, hs, beq_self_eq_true] at z
    exact z X.prog X.w _ _ ⟨.bl true, H, I, rfl, q⟩
  | @dk a b kvs h1 h2 nd fl =>
    exact op_eq_dict (by omega) pins s σ H _ _ v u Q I rx ry ⟨a, b, kvs, rfl, rfl, h1, h2, nd, fl, q⟩
/-- isinstance(e, c), e an error that is held as a value -/
def rIsErr (K : PySem.W.Frag) : List V → Hp → VK → Prop := fun xs H Q => ∃ (a C : Addr) (d : Option Addr) (fs : List (Str × V)) (c : V) (u : Value) (b : Bool), xs = [.ref a, c] ∧ H a = some (exo a C d) ∧ (∀ dd, d = some dd → H dd = some (exd dd fs)) ∧ ExcC K C ∧ ClsV c u ∧ PySem.W.kitOne K (.ref C) u = some b ∧ Q (.bl b) H
theorem call_isErr : CallR X (.builtin "isinstance") (rIsErr X.K) := by
  intro pins s σ H xs us Q I r h
  obtain ⟨a, C, d, fs, c, u, b, rfl, ea, ed, T, k, e, q⟩ := h
  obtain ⟨u1, u2, rfl, r1, r2⟩ := vals2 r
  have e2 := k.eq r2
  subst e2
  cases r1
  obtain ⟨t1, ha⟩ := exo_at I.hok ea
  have hcl : (PySem.W.clsIn X.K C).isSome = true := by
    obtain ⟨cd, hc, _⟩ := PySem.W.any_some T.hd
    rw [hc]
    rfl
  cases d with
  | none => exact PySem.W.kia_one (PySem.W.kitx_exc (od := none) hcl T.hg T.hk T.hs T.ha T.hn T.ht T.hm) I.kIn (show PySem.W.InstAt s.heap a _ C none from ⟨ha, rfl, rfl, trivial⟩) e (fun z => nomatch z) fun tk => ⟨.bl b, H, I.tok tk, rfl, q⟩
  | some dd =>
    obtain ⟨mA, ⟨od, es, ep, ho, hr⟩, _⟩ := exd_at I.hok (ed dd rfl)
    exact PySem.W.kia_one (PySem.W.kitx_exc (od := some od) hcl T.hg T.hk T.hs T.ha T.hn T.ht T.hm) I.kIn (show PySem.W.InstAt s.heap a _ C (some od) from ⟨ha, rfl, rfl, ho⟩) e (fun z => nomatch z) fun tk => ⟨.bl b, H, I.tok tk, rfl, q⟩
end
end L2

set_option Elab.async false
set_option linter.all false
set_option maxRecDepth 100000
set_option maxHeartbeats 4000000
namespace T88
open PySem L2
def top (i : Nat) : Stmt := PySem.Challenge.pw_turnindex_k88_least_runs_of_rings.main.body.getD i (.Pass ⟨0, 0, 0, 0⟩)
abbrev sWell : Stmt := top 10
abbrev sDraw : Stmt := top 11
abbrev sOne : Stmt := top 12
/-- a well of draws: its own digits left, its number, how often it was asked -/
def WellAt (H : Hp) (a : Addr) (n : Int) : Prop := ∃ w0 w1 w2 : Int, H a = some (.lst [.int w0, .int w1, .int w2]) ∧ 0 ≤ w1 ∧ w1 < 2147483647 ∧ 0 ≤ w2 ∧ w2 ≤ n
def KeepB (a : Addr) (H H' : Hp) : Prop := ∀ b o, H b = some o → b ≠ a → H' b = some o
def spWell : Sp := fun vs H Q _ => ∃ c : Int, vs = [.int c] ∧ ∀ p H', H p = none → WellAt H' p 0 → Same H H' → Q (.ref p) H'
def spDraw : Sp := fun vs H Q _ => ∃ (a : Addr) (m n : Int), vs = [.ref a, .int m] ∧ WellAt H a n ∧ n ≤ 1000000 ∧ 0 < m ∧ m ≤ 100000000000000000000 ∧ ∀ (d : Int) H', 0 ≤ d → d < m → WellAt H' a (n + 1) → KeepB a H H' → Q (.int d) H'
structure TxtD (K : PySem.W.Frag) (mg : Str → Option Value) : Prop where
  int : mg "int" = none
  len : mg "len" = none
section
variable {P : Program} {w : World} {K : PySem.W.Frag} {mg : Str → Option Value} {base : Heap}
theorem scWell : FnScope ["_law_cell"] ["_law_cell"] (defScope sWell) := ⟨rfl, rfl, rfl, by decide +kernel, rfl, by decide +kernel, by decide +kernel⟩
theorem ok_well {f : Addr} {fd : FuncData} (F : Fun K "_law_well" "_law_well" sWell f fd) (T : TxtD K mg) : FnOk P w K mg base CX0 1 f fd ["_law_cell"] spWell := by
  refine F.ok scWell (fun vs H Q E h => ?_) (fun cdv A outer s H vs Q E hr h => ?_)
  · obtain ⟨c, rfl, _⟩ := h
    rfl
  · obtain ⟨c, rfl, k⟩ := h
    refine ⟨_, pss_one (ps_ret (pe_lst (pa_cons (pe_op op_mul (pv 0) (pe_callTy call_int1 (by rfl) T.int (by decide +kernel) (pa_cons (pe_cmpR op_ge (pv 0) (pe_op op_pow pe_int pe_int) (nomark _)) pa_nil)))
      (pa_cons (pe_op op_mod (pe_callTy call_int1 (by rfl) T.int (by decide +kernel) (pa_cons (pv 0) pa_nil)) pe_int) (pa_cons pe_int pa_nil))))), ?_⟩
    refine ⟨_, rfl, _, rfl, _, _, rfl, rfl, ⟨by decide, by decide, by decide⟩, _, _, rfl, rfl, .inr ⟨_, rfl, _, _, rfl, rfl, .inr ?_, ?_⟩⟩
    · by_cases h : (10 : Int) ^ (18 : Int).toNat ≤ c
      · rw [decide_eq_true h]; decide
      · rw [decide_eq_false h]; decide
    refine ⟨_, rfl, .inl ⟨_, rfl, _, _, rfl, rfl, (by show (0 : Int) < 2147483629; decide), (by show 3 ≤ sizeLine; decide), fun p hp => ?_⟩⟩
    refine k p _ hp ⟨_, _, _, upd_same, Int.emod_nonneg _ (by decide), Int.lt_trans (Int.emod_lt_of_pos _ (by decide)) (by decide : (2147483629 : Int) < 2147483647), by decide, by decide⟩ fun b o e => ?_
    rw [upd_ne (ne_of_none e hp)]
    exact e
theorem scDraw : FnScope ["_law_well_here", "_law_many", "_law_digit", "_law_number"] ["_law_well_here", "_law_many"] (defScope sDraw) := ⟨rfl, rfl, rfl, by decide +kernel, rfl, by decide +kernel, by decide +kernel⟩
theorem ok_draw {f : Addr} {fd : FuncData} (F : Fun K "_law_draw" "_law_draw" sDraw f fd) (T : TxtD K mg) : FnOk P w K mg base CX0 1 f fd ["_law_well_here", "_law_many"] spDraw := by
  refine F.ok scDraw (fun vs H Q E h => ?_) (fun cdv A outer s H vs Q E hr h => ?_)
  · obtain ⟨a, m, n, rfl, _⟩ := h
    rfl
  · obtain ⟨a, m, n, rfl, ⟨w0, w1, w2, ha, h1, h2, h3, h4⟩, hn, hm, hm2, k⟩ := h
    have nd := scDraw.nd
    refine ⟨_, (pss_cons (ps_if (pt_cmpR op_gt (pe_ix ix_list (pv 0) pe_int (fun _ _ => rfl)) pe_int (nomark _)) (pss_cons (ps_set (i := 2) nd rfl (Or.inl rfl) (pe_op op_mod (pe_callTy call_int1 (by rfl) T.int (by decide +kernel) (pa_cons (pe_ix ix_list (pv 0) pe_int (fun _ _ => rfl)) pa_nil)) (pv 1)))
      (pss_cons (ps_asg (pe_op op_fdivW (pe_ix ix_list (pv 0) pe_int (fun _ _ => rfl)) (pv 1)) (pg_sub (pv 0) pe_int set_list))
      (pss_one (ps_ret (pv 2))))) pss_nil)
      (pss_cons (ps_asg (pe_op op_add (pe_ix ix_list (pv 0) pe_int (fun _ _ => rfl)) pe_int) (pg_sub (pv 0) pe_int set_list))
      (pss_cons (ps_set (i := 3) nd rfl (Or.inl rfl) (pe_op op_mod (pe_callTy call_int1 (by rfl) T.int (by decide +kernel) (pa_cons (pe_op op_pow (pe_op op_add (pe_op op_add (pe_ix ix_list (pv 0) pe_int (fun _ _ => rfl)) (pe_op op_mul pe_int (pe_ix ix_list (pv 0) pe_int (fun _ _ => rfl)))) pe_int) pe_int) pa_nil)) pe_int))
      (pss_cons (ps_set (i := 3) nd rfl (Or.inl rfl) (pe_op op_mod (pe_callTy call_int1 (by rfl) T.int (by decide +kernel) (pa_cons (pe_op op_add (pe_op op_mul (pv 3) (pe_op op_add (pe_op op_fdiv (pv 3) pe_int) pe_int)) (pe_ix ix_list (pv 0) pe_int (fun _ _ => rfl))) pa_nil)) pe_int))
      (pss_one (ps_ret (pe_op op_mod (pe_callTy call_int1 (by rfl) T.int (by decide +kernel) (pa_cons (pe_op op_fdiv (pe_op op_mod (pe_callTy call_int1 (by rfl) T.int (by decide +kernel) (pa_cons (pe_op op_mul (pv 3) (pe_op op_add (pe_op op_fdiv (pv 3) pe_int) pe_int)) pa_nil)) pe_int) pe_int) pa_nil)) (pv 1)))))))), ?_⟩
    refine ⟨_, rfl, a, _, 0, _, rfl, rfl, .of ha, rfl, _, _, rfl, rfl, _, rfl, ?_⟩
    refine ite2 (fun h0 => ?_) (fun h0 => ?_)
    · refine ⟨_, rfl, a, _, 0, _, rfl, rfl, .of ha, rfl, .inl ⟨_, rfl, _, rfl, _, _, rfl, rfl, hm, ?_⟩⟩
      refine ⟨_, rfl, a, _, 0, _, rfl, rfl, .of ha, rfl, _, rfl, _, _, rfl, rfl, (wide_div (b := 70) hm (by omega) (by decide) (by decide)), _, rfl, a, _, 0, 0, rfl, rfl, ha, rfl, _, rfl, ?_⟩
      refine k _ _ (Int.emod_nonneg _ (by omega)) (Int.emod_lt_of_pos _ hm) ⟨_, _, _, upd_same, h1, h2, h3, by omega⟩ fun b o e n => ?_
      rw [upd_ne n]
      exact e
    · refine ⟨_, rfl, a, _, 2, _, rfl, rfl, .of ha, rfl, _, _, rfl, rfl, _, rfl, a, _, 2, 2, rfl, rfl, ha, rfl, ?_⟩
      obtain ⟨H1, e1, ha1, kb⟩ : ∃ H1, upd H a (.lst ([V.int w0, V.int w1, V.int w2].set 2 (V.int (w2 + 1)))) = H1 ∧ H1 a = some (.lst [.int w0, .int w1, .int (w2 + 1)]) ∧ KeepB a H H1 := ⟨_, rfl, upd_same, fun b o e n => by rw [upd_ne n]; exact e⟩
      simp only [e1]
      refine ⟨_, rfl, a, _, 1, _, rfl, rfl, .of ha1, rfl, _, rfl, a, _, 2, _, rfl, rfl, .of ha1, rfl, _, _, rfl, rfl, .inl ⟨by decide, by decide⟩, ?_⟩
      refine ⟨_, _, rfl, rfl, _, _, rfl, rfl, _, _, rfl, rfl, ⟨by decide, by decide, by omega⟩, .inl ⟨_, rfl, _, _, rfl, rfl, (by show (0 : Int) < 2147483647; decide), ?_⟩⟩
      have g0 := Int.emod_nonneg ((w1 + 6991 * (w2 + 1) + 3) ^ (5 : Int).toNat) (show (2147483647 : Int) ≠ 0 by decide)
      have g1 := Int.emod_lt_of_pos ((w1 + 6991 * (w2 + 1) + 3) ^ (5 : Int).toNat) (show (0 : Int) < 2147483647 by decide)
      obtain ⟨r, hr0⟩ : ∃ r, (w1 + 6991 * (w2 + 1) + 3) ^ (5 : Int).toNat % 2147483647 = r := ⟨_, rfl⟩
      show tSeq _ _ _ (List.set _ 3 (some (V.int ((w1 + 6991 * (w2 + 1) + 3) ^ (5 : Int).toNat % 2147483647)))) H1
      rw [hr0] at g0 g1 ⊢
      refine ⟨_, rfl, _, rfl, _, _, rfl, rfl, ⟨by decide, by decide⟩, _, _, rfl, rfl, _, _, rfl, rfl, .inl ⟨by omega, by omega⟩, ?_⟩
      refine ⟨_, rfl, a, _, 2, _, rfl, rfl, .of ha1, rfl, _, _, rfl, rfl, .inl ⟨_, rfl, _, _, rfl, rfl, (by show (0 : Int) < 2147483587; decide), ?_⟩⟩
      have g2 := Int.emod_nonneg (r * (r / 1013 + 48611) + (w2 + 1)) (show (2147483587 : Int) ≠ 0 by decide)
      have g3 := Int.emod_lt_of_pos (r * (r / 1013 + 48611) + (w2 + 1)) (show (0 : Int) < 2147483587 by decide)
      refine ⟨_, rfl, _, rfl, _, _, rfl, rfl, ⟨by decide, by decide⟩, _, _, rfl, rfl, _, _, rfl, rfl, .inl ⟨by omega, by omega⟩, .inl ⟨_, rfl, _, _, rfl, rfl, (by show (0 : Int) < 2147483563; decide), _, _, rfl, rfl, ⟨by decide, by decide⟩, .inl ⟨_, rfl, _, rfl, _, _, rfl, rfl, hm, ?_⟩⟩⟩
      exact k _ _ (Int.emod_nonneg _ (by omega)) (Int.emod_lt_of_pos _ hm) ⟨_, _, _, ha1, h1, h2, by omega, by omega⟩ kb

/-- one of a list of things -/
def spOne : Sp := fun vs H Q _ => ∃ (a l : Addr) (n : Int) (xs : List V), vs = [.ref a, .ref l] ∧ WellAt H a n ∧ n ≤ 1000000 ∧ H l = some (.lst xs) ∧ l ≠ a ∧ 0 < xs.length ∧ xs.length ≤ 1000 ∧ ∀ (x : V) H', x ∈ xs → WellAt H' a (n + 1) → KeepB a H H' → Q x H'
theorem scOne : FnScope ["_law_well_here", "_law_some"] ["_law_well_here", "_law_some"] (defScope sOne) := ⟨rfl, rfl, rfl, by decide +kernel, rfl, by decide +kernel, by decide +kernel⟩
theorem ok_one {f fD : Addr} {fd fdD : FuncData} (F : Fun K "_law_one" "_law_one" sOne f fd) (T : TxtD K mg) (FD : Fun K "_law_draw" "_law_draw" sDraw fD fdD) (gD : mg "_law_draw" = some (.ref fD)) (bD : Binds K fdD ["_law_well_here", "_law_many"] []) :
    FnOk P w K mg base CX0 2 f fd ["_law_well_here", "_law_some"] spOne := by
  have GD : FnOk P w K mg base CX0 1 fD fdD ["_law_well_here", "_law_many"] spDraw := ok_draw FD T
  refine F.ok scOne (fun vs H Q E h => ?_) (fun cdv A outer s H vs Q E hr h => ?_)
  · obtain ⟨a, l, n, xs, rfl, _⟩ := h
    rfl
  · obtain ⟨a, l, n, xs, rfl, hw, hn, hl, hla, h1, h2, k⟩ := h
    refine ⟨_, pss_one (ps_ret (pe_ix ix_list (pv 1) (pe_call GD hr rfl gD FD.kp bD .nil pass0 (pa_cons (pv 0) (pa_cons (pe_callB call_len_seq (by rfl) T.len PySem.boot_len (pa_cons (pv 1) pa_nil)) pa_nil))) (fun _ _ => rfl))), ?_⟩
    refine ⟨_, rfl, _, rfl, _, rfl, l, xs, rfl, .inl (.of hl), a, _, n, rfl, hw, hn, by omega, by omega, fun d H' hd hd2 hw' hk => ?_⟩
    obtain ⟨j, rfl⟩ : ∃ j : Nat, d = (j : Int) := ⟨d.toNat, by omega⟩
    have hj : j < xs.length := by omega
    refine ⟨l, xs, _, xs[j], rfl, rfl, .of (hk l _ hl hla), atI_nat (List.getElem?_eq_getElem hj), ?_⟩
    exact k _ _ (List.getElem_mem hj) hw' hk
end
end T88

set_option Elab.async false
set_option linter.all false
set_option maxRecDepth 100000
set_option maxHeartbeats 4000000
namespace L2
open PySem EK
theorem alloc {H : Hp} {p : Addr} {o : HO} (hp : H p = none) : ∃ H1, upd H p o = H1 ∧ Same H H1 ∧ H1 p = some o :=
  ⟨_, rfl, fun b u e => by rw [upd_ne (ne_of_none e hp)]; exact e, upd_same⟩
/-- an error of the class at C stands at a, its one value v -/
def ErrAt (H : Hp) (a d C : Addr) (f : Str) (v : V) : Prop := H a = some (exo a C (some d)) ∧ H d = some (exd d [(f, v)])
theorem ErrAt.keep {H H' : Hp} {a d C : Addr} {f : Str} {v : V} (e : ErrAt H a d C f v) (s : Same H H') : ErrAt H' a d C f v := ⟨s _ _ e.1, s _ _ e.2⟩
theorem alloc_err {H : Hp} {a d C : Addr} {f : Str} {v : V} (ha : H a = none) (hd : H d = none) (hne : d ≠ a) : ∃ H1, upd (upd H d (exd d [(f, v)])) a (exo a C (some d)) = H1 ∧ Same H H1 ∧ ErrAt H1 a d C f v :=
  ⟨_, rfl, fun b u e => by rw [upd_ne (ne_of_none e ha), upd_ne (ne_of_none e hd)]; exact e, upd_same, by rw [upd_ne hne, upd_same]⟩
theorem look1 (f : Str) (v : V) : List.lookup f [(f, v)] = some v := by rw [lookup_put, if_pos rfl]
theorem _root_.EK.ErrTxt.xf {P : Program} {K : PySem.W.Frag} {mg : Str → Option Value} {x f : Str} {C fI : Addr} (T : ErrTxt P K mg x f C fI) : XfC K C := ⟨T.ga, T.gg, T.exC, T.hdC⟩
end L2

set_option Elab.async false
set_option linter.all false
set_option maxRecDepth 100000
set_option maxHeartbeats 4000000
/-! NumKit: math.factorial; x *= y, x //= y of great numbers. -/
namespace L2
open PySem PySem.Spec PyProof.Rows
theorem iteY {b : Bool} {P R : Prop} (h : b = true) (p : P) : if b = true then P else R := by rw [if_pos h]; exact p
theorem iteN {b : Bool} {P R : Prop} (h : b = false) (r : R) : if b = true then P else R := by rw [if_neg (by rw [h]; decide)]; exact r
section
variable {X : Cx}
def facI (n : Int) : Int := ((Builtin.Math.factorialNat n.toNat : Nat) : Int)
def rFact : List V → Hp → VK → Prop := fun vs H Q => ∃ a : Int, vs = [.int a] ∧ 0 ≤ a ∧ a ≤ 20000 ∧ Q (.int (facI a)) H
theorem call_fact : CallR X (.builtin "math.factorial") rFact := by
  intro pins s σ H vs us Q I r h
  obtain ⟨a, rfl, h0, h1, q⟩ := h
  obtain ⟨u, rfl, ru⟩ := vals1 r
  obtain ⟨t, rfl⟩ := ru
  exact PySem.W.mc_factorial h0 h1 fun _ => ⟨.int _, H, I.tok _, ⟨_, rfl⟩, q⟩
def ipMulW : TIp := fun x y H Q => ∃ i j, x = .int i ∧ y = .int j ∧ CMulW i j ∧ Q (.int (i * j)) H
theorem ip_mulW : PIp X .Mult ipMulW := by
  intro pins s σ H x y v u Q I r1 r2 h
  obtain ⟨i, j, rfl, rfl, hc, q⟩ := h
  obtain ⟨t, rfl⟩ := r1
  obtain ⟨t', rfl⟩ := r2
  exact AutoIntOps.imul_0 (show EP X pins σ Q (.int (i * j) s.toks) { s with toks := s.toks + 1 } from ⟨.int _, H, I.tok _, ⟨_, rfl⟩, q⟩) hc.ok
def ipFdivW : TIp := fun x y H Q => ∃ i j, x = .int i ∧ y = .int j ∧ CDivW i j ∧ Q (.int (i / j)) H
theorem ip_fdivW : PIp X .FloorDiv ipFdivW := by
  intro pins s σ H x y v u Q I r1 r2 h
  obtain ⟨i, j, rfl, rfl, hc, q⟩ := h
  obtain ⟨t, rfl⟩ := r1
  obtain ⟨t', rfl⟩ := r2
  have h1 : (0 : Int) < j := hc.1
  refine AutoIntOps.ifloordiv_1 (by simp; omega) (by rw [PyProof.noPylong_of_log2 hc.2]; simp) (show EP X pins σ Q (.int (i.fdiv j) s.toks) { s with toks := s.toks + 1 } from ⟨.int (i / j), H, I.tok _, ?_, q⟩)
  rw [Int.fdiv_eq_ediv_of_nonneg i (by omega)]
  exact ⟨_, rfl⟩
end
end L2

set_option Elab.async false
set_option linter.all false
set_option maxRecDepth 100000
set_option maxHeartbeats 4000000
/-! RaiseKit: an error raised; several clauses, with and without names; what a lambda handed over says. -/
namespace L2
open PySem PySem.Spec PyProof.Rows EK
section
variable {X : Cx} {C fI : Addr} {x f : Str}
/-- x(e), made to be raised: its own dict, new, holds the value -/
def tErrMk (C : Addr) (f : Str) (ta : TA) : St → Hp → XK → Prop := fun σ H Q => ta σ H fun vs H1 => ∃ v, vs = [v] ∧ ∀ d, H1 d = none → Q (.ref C) (some d) (upd H1 d (.xd [(f, v)]))
theorem pmk_err {a : Expr} {ta : TA} {p pos : Pos} {k : Nat} (T : ErrTxt X.prog X.K X.mg x f C fI) (hr : Room k X.A) (ha : PA X [a] ta) (hg : Gl X x) (hd : (x == ("__debug__" : Str)) = false := by decide)
    (he : starEach (a :: []) X.env = (false, eval a X.env) :: starEach [] X.env := by rfl) (hpl : (backTo pos (starEach [] X.env)).any (·.1) = false := by rfl) :
    PMk X (.Call (.Name x p) [a] [] pos) (tErrMk C f ta) := by
  intro pins s σ H Q I h
  refine wpAny_Call_Name_kw (ld_glob I hg T.gC ?_ hd)
  refine PySem.W.callWith_K (h₀ := X.base) I.ok.mod.kin T.kC (thn (ha.run pos pins s σ H _ I h) fun us s1 hh => ?_) he hpl
  obtain ⟨vs, H1, I1, r1, v, ev, q1⟩ := hh
  subst ev
  refine ⟨I1.kIn, ?_⟩
  cases r1 with
  | cons rv rn =>
    rename_i v' us'
    cases rn
    show wpAny _ _ (call (.ref C) [v']) _ _ _
    have hlim := I1.nolimit
    obtain ⟨hp, g, dr, tk, os⟩ := s1
    obtain ⟨mb, hb1, hb2⟩ := I1.mod.blt
    refine wpAny_call (err_made T I1.kIn hlim (I1.mod.glob.keeps I1.bk) ⟨mb, hb1.keeps I1.bk, hb2⟩ (by have := hr.dp; omega) fun h' tk' e d M => ?_)
    show MkP X pins σ Q (.ref e) ⟨h', g, dr, tk', os⟩
    obtain ⟨t1, hoe⟩ := M.obj
    obtain ⟨G, g1, g2⟩ := restrict h' fun b => decide (b ≠ e)
    have gk : ∀ b, b ≠ e → G.get? b = h'.get? b := fun b hb => g1 b (decide_eq_true hb)
    have ge : G.get? e = none := g2 e (by simp)
    have gs : ∀ b o, G.get? b = some o → h'.get? b = some o := fun b o q => by
      by_cases hbe : b = e
      · rw [hbe, ge] at q
        cases q
      · exact (gk b hbe).symm.trans q
    have old : ∀ b o, hp.get? b = some o → G.get? b = some o := fun b o q => (gk b (Nat.ne_of_lt (Nat.lt_of_lt_of_le (Heap.lt_size q) M.new))).trans (M.keep b o q)
    have ob : ObjOk X.prog X.w (upd H1 d (.xd [(f, v)])) G d (.xd [(f, v)]) := ⟨_, M.ns.at (fun o q => (gk d M.dne).trans q), relO_one rv⟩
    have J : Inv X pins σ (upd H1 d (.xd [(f, v)])) ⟨G, g, dr, tk', os⟩ := I1.laid (t' := tk') old M.dbig ob
    have ne : (upd H1 d (.xd [(f, v)])) e = none := by
      rw [upd_ne (Ne.symm M.dne)]
      exact I1.hok.fresh M.new
    exact ⟨e, _, _, ⟨G, g, dr, tk', os⟩, _, .ref C, some d, rfl, J, gs, ge, hoe, ⟨rfl, rfl⟩, rfl, rfl, ne, rfl, I1.bare, raises_own T.exC T.tyC, q1 d (I1.hok.fresh M.dbig)⟩
theorem ps_raiseErr {a : Expr} {ta : TA} {W : WX} {p pos pos2 : Pos} {k : Nat} (hc : X.calm = true) (T : ErrTxt X.prog X.K X.mg x f C fI) (hr : Room k X.A) (tk : Takes X W) (ha : PA X [a] ta) (hg : Gl X x) (hd : (x == ("__debug__" : Str)) = false := by decide)
    (he : starEach (a :: []) X.env = (false, eval a X.env) :: starEach [] X.env := by rfl) (hpl : (backTo pos (starEach [] X.env)).any (·.1) = false := by rfl) :
    PS X (.Raise (some (.Call (.Name x p) [a] [] pos)) none pos2) (fun _ σ H => tErrMk C f ta σ H fun cls d H' => W cls d σ H') := ps_raise hc tk (pmk_err T hr ha hg hd he hpl)
end
/-! ### try with several clauses -/
structure Cl where
  c : Value
  i : Option Nat
  ts : Addr → Value → Option Addr → TS
def Ends.drop (D : Ends) (i : Nat) : Ends := { nx := fun s h => D.nx (s.set i none) h, rt := D.rt, bk := fun s h => D.bk (s.set i none) h, ct := fun s h => D.ct (s.set i none) h }
def Cl.run (k : Cl) (a : Addr) (cls : Value) (d : Option Addr) : TS := fun D σ H => match k.i with
  | none => k.ts a cls d D σ H
  | some i => i < σ.length → k.ts a cls d (D.drop i) (σ.set i (some (.ref a))) H
def wCl (K : PySem.W.Frag) (Wout : WX) (D : Ends) : List Cl → WX
  | [] => Wout
  | k :: r => fun cls d σ H => ∃ b, PySem.W.exmOne K cls k.c = some b ∧ (b = true → ∀ a, H a = none → k.run a cls d D σ H) ∧ (b = false → wCl K Wout D r cls d σ H)
inductive ClOk (X : Cx) : List ExceptHandler → List Cl → Prop
  | nil : ClOk X [] []
  | un {x : Str} {c : Value} {ts : Addr → Value → Option Addr → TS} {b1 : Stmt} {suite : List Stmt} {np pos' : Pos} {hds : List ExceptHandler} {l : List Cl} (hc : Names X x c)
      (hsu : ∀ (a : Addr) (oe : Obj) (cls : Value) (d : Option Addr) (pn : List (Addr × Obj)), Zc cls d oe → (∃ vs, oe.data = .fields vs) → PSs (X.suite a ((a, oe) :: pn)) (b1 :: suite) (ts a cls d)) (r : ClOk X hds l) :
      ClOk X (.ExceptHandler (some (.Name x np)) none (b1 :: suite) pos' :: hds) (⟨c, none, ts⟩ :: l)
  | as {x n : Str} {i : Nat} {c : Value} {ts : Addr → Value → Option Addr → TS} {b1 : Stmt} {suite : List Stmt} {np pos' : Pos} {hds : List ExceptHandler} {l : List Cl} (hi : X.N[i]? = some n) (hln : X.env.kindOf n = some .local) (hc : Names X x c)
      (hsu : ∀ (a : Addr) (oe : Obj) (cls : Value) (d : Option Addr) (pn : List (Addr × Obj)), Zc cls d oe → (∃ vs, oe.data = .fields vs) → PSs (X.suite a ((a, oe) :: pn)) (b1 :: suite) (ts a cls d)) (r : ClOk X hds l) :
      ClOk X (.ExceptHandler (some (.Name x np)) (some n) (b1 :: suite) pos' :: hds) (⟨c, some i, ts⟩ :: l)
section
variable {X : Cx} {body : List Stmt} {hd0 : ExceptHandler} {hds : List ExceptHandler} {l : List Cl} {pos : Pos} {tb : WX → TS} {Wout : WX} {pins : List (Addr × Obj)} {s : Shared} {D : Ends}
/-- behind a suite: its end, the name gone -/
theorem sp_unsuite {a : Addr} {q : Addr × Obj} {f : Flow} (ok : X.Ok) (h : SP (X.suite a (q :: (X.pn ++ pins))) [] D f s) : SP X pins D f s := by
  cases f with
  | next =>
    obtain ⟨t, h1, J, z⟩ := h
    exact ⟨t, h1, J.unsuite ok, z⟩
  | brk =>
    obtain ⟨t, h1, J, z⟩ := h
    exact ⟨t, h1, J.unsuite ok, z⟩
  | cont =>
    obtain ⟨t, h1, J, z⟩ := h
    exact ⟨t, h1, J.unsuite ok, z⟩
  | ret u =>
    obtain ⟨v, t, h1, J, r, z⟩ := h
    exact ⟨v, t, h1, J.unsuite ok, r, z⟩
theorem sp_gone {n : Str} {i : Nat} {f : Flow} {pos' : Pos} (hN : X.N.Nodup) (hi : X.N[i]? = some n) (hln : X.env.kindOf n = some .local) (h : SP X pins (D.drop i) f s) :
    wpAny (model X.prog X.w) X.A (do bindName X.env n .none; unbindBehindTheSuite X.env n pos') (fun _ s7 => SP X pins D f s7) X.xe s := by
  cases f with
  | next =>
    obtain ⟨t, h1, J, z⟩ := h
    exact gone_ok J hN hi hln fun s7 J7 => ⟨_, _, J7, z⟩
  | brk =>
    obtain ⟨t, h1, J, z⟩ := h
    exact gone_ok J hN hi hln fun s7 J7 => ⟨_, _, J7, z⟩
  | cont =>
    obtain ⟨t, h1, J, z⟩ := h
    exact gone_ok J hN hi hln fun s7 J7 => ⟨_, _, J7, z⟩
  | ret u =>
    obtain ⟨v, t, h1, J, r, z⟩ := h
    exact gone_ok J hN hi hln fun s7 J7 => ⟨_, _, _, J7, r, z⟩
theorem names_ld {a : Addr} {oe : Obj} {pn : List (Addr × Obj)} {σ : St} {H : Hp} {x : Str} {c : Value} {np : Pos} (S : Inv (X.suite a ((a, oe) :: pn)) [] σ H s) (hc : Names X x c) {Q : Value → Shared → Prop} {E : Value → Shared → Prop} (q : Q c s) :
    wpAny (model X.prog X.w) (X.A.mark (some (.ref a))) (eval (.Name x np) X.env) Q E s := by
  obtain ⟨h1, h2, h3⟩ := hc
  rcases h3 with h3 | ⟨h3, h4, h5⟩
  · exact ld_glob (X := X.suite a ((a, oe) :: pn)) S h1 h3 q h2
  · exact ld_blt (X := X.suite a ((a, oe) :: pn)) S h1 h3 h4 q h5 h2
theorem ps_tryC (hs : X.stack = X.env :: X.outer) (hf : X.env.frame = some X.env.locals) (hN : X.N.Nodup) (tk : Takes X Wout)
    (hb : ∀ (W : WX) (pn : List (Addr × Obj)) (xe : Value → Shared → Prop), Takes (X.tr pn xe) W → PassesOwn (model X.prog X.w) X.A X.env xe → PSs (X.tr pn xe) body (tb W))
    (hh : ClOk X (hd0 :: hds) l) : PS X (.Try body (hd0 :: hds) [] [] pos) (fun D σ H => tb (wCl X.K Wout D l) D σ H) := by
  refine ⟨fun pins s σ H D I h => ?_⟩
  have ok := I.ok
  have hfr : X.A.frames = some (X.env :: X.outer) := ok.frames.trans (congrArg some hs)
  refine wpAny_Try_except (wpAny_mono ((hb (wCl X.K Wout D l) (X.pn ++ pins) _ (fun u s' xx => ?_) PassesOwn.looking).run [] s σ H D (I.toTry _) h) (fun fl s1 hsp => ?_) fun e s1 he => he)
  · -- an exception has come
    obtain ⟨a, B, sI, pins', σ', H', cls, d, rfl, J0, nb, up, sky, na, os, ag, w⟩ := xx
    have J : Inv X pins σ' H' sI := J0.ofTry ok
    rw [hs] at sky
    show wpAny (model X.prog X.w) X.A (noteFrame (.ref a) X.env) _ _ _
    refine Sky.land Zc.steady hfr hf sky fun h3 fl3 up3 => ?_
    have J3 : Inv X pins σ' H' { s' with heap := h3 } := J.landed nb fl3.1 (up.trans up3) os ag
    obtain ⟨oe3, vs3, he3, hz3, hd3⟩ := fl3.there
    have ff := fl3.2.2.1
    have away : ∀ b ∈ frs (X.env :: X.outer), a ≠ b := fun b hm z => by
      obtain ⟨_, o', e', hnf⟩ := ff.mem hm
      rw [← z, he3] at e'
      cases e'
      exact hnf _ hd3
    have nL : a ≠ X.env.locals := away _ (List.mem_filterMap.mpr ⟨X.env, List.mem_cons_self, hf⟩)
    have nF : a ∉ X.fs := fun hm => by
      obtain ⟨e, he, q⟩ := List.mem_filterMap.mp hm
      exact away a (List.mem_filterMap.mpr ⟨e, List.mem_cons_of_mem _ he, q⟩) rfl
    have S3 := J3.suite he3 hd3 na nL nF
    have LT : PySem.W.Looks (model X.prog X.w) h3 (typeOf (.ref a)) cls := fun A Q E s k q => wpAny_typeOf_ref (k _ _ he3) (by rw [hz3.1]; exact q)
    have test : ∀ {x : Str} {c : Value} {np : Pos}, Names X x c → ∀ {Q : Value → Shared → Prop} {E : Value → Shared → Prop}, Q c { s' with heap := h3 } → wpAny (model X.prog X.w) (X.A.mark (some (.ref a))) (eval (.Name x np) X.env) Q E { s' with heap := h3 } := fun hc => names_ld S3 hc
    have go : ∀ {hs2 : List ExceptHandler} {l2 : List Cl}, ClOk X hs2 l2 → wCl X.K Wout D l2 cls d σ' H' →
        wpAny (model X.prog X.w) X.A (handleBy (.ref a) X.env hs2) (SP X pins D) X.xe { s' with heap := h3 } := by
      intro hs2 l2 hk
      induction hk with
      | nil =>
        intro w
        refine wpAny_handleBy_nil ?_
        obtain ⟨_, _, _, oe, vs, T, oT, ts', he, hz, hd, h1, hr⟩ := id fl3
        unfold PySem.passOn
        refine wpAny_bind (wpAny_field he hd h1 ?_)
        rw [if_neg (show ¬ ((Value.ref T == Value.none) = true) from by simp)]
        have fin : wpAny (model X.prog X.w) X.A (setFlight (.ref a) X.env.frame) (fun _ s4 => wpAny (model X.prog X.w) X.A (throw (.ref a) : Sem Flow) (SP X pins D) X.xe s4) X.xe { s' with heap := h3 } := by
          rw [hf]
          exact HandSPX.setFlight_upZ fl3 fun h4 hh4 up4 => wpAny_throw (tk _ _ ⟨a, B, sI, pins, σ', H', cls, d, rfl, J, nb, (up.trans up3).trans up4, .inr (.inr (by rw [hs]; exact hh4)), na, os, ag, w⟩)
        first
          | exact wpAny_bind (wpAny_pure (wpAny_bind fin))
          | exact wpAny_bind fin
      | @un x c ts b1 suite np pos' hds2 l2 hc hsu r ih =>
        intro ⟨b, hb1, hyes, hno⟩
        refine wpAny_handleBy_cons (codeAny_handlers_test (test hc ((PySem.W.exm_one (M := model X.prog X.w) J3.kIn LT hb1).here ?_))) (by intro q; cases q)
        cases b with
        | false => exact ih (hno rfl)
        | true =>
          refine codeAny_handlers_suite (HandSPX.lands_againZ fl3 fun h4 fl4 up4 => ?_)
          have J4 : Inv X pins σ' H' { s' with heap := h4 } := J.landed nb fl4.1 ((up.trans up3).trans up4) os ag
          obtain ⟨oe4, vs4, he4, hz4, hd4⟩ := fl4.there
          exact wpAny_mono ((hsu a oe4 cls d (X.pn ++ pins) hz4 ⟨_, hd4⟩).run [] _ _ H' _ (J4.suite he4 hd4 na nL nF) (hyes rfl a na)) (fun f s6 hsp => sp_unsuite ok hsp) (fun _ _ z => False.elim z)
      | @as x n i c ts b1 suite np pos' hds2 l2 hi hln hc hsu r ih =>
        intro ⟨b, hb1, hyes, hno⟩
        refine wpAny_handleBy_cons (codeAny_handlers_test (test hc ((PySem.W.exm_one (M := model X.prog X.w) J3.kIn LT hb1).here ?_))) (by intro q; cases q)
        cases b with
        | false => exact ih (hno rfl)
        | true =>
          refine codeAny_handlers_suite_as (HandSPX.lands_againZ fl3 fun h4 fl4 up4 => ?_)
          have J4 : Inv X pins σ' H' { s' with heap := h4 } := J.landed nb fl4.1 ((up.trans up3).trans up4) os ag
          obtain ⟨oe4, vs4, he4, hz4, hd4⟩ := fl4.there
          refine store_ok (X := X.suite a ((a, oe4) :: (X.pn ++ pins))) (v := .ref a) (J4.suite he4 hd4 na nL nF) hN hi (.inl hln) rfl (fun s5 S5 => ?_) (.inr hln)
          have hil : i < σ'.length := by rw [J.len]; exact (List.getElem?_eq_some_iff.mp hi).1
          exact wpAny_mono ((hsu a oe4 cls d (X.pn ++ pins) hz4 ⟨_, hd4⟩).run [] s5 _ H' _ S5 (hyes rfl a na hil)) (fun f s6 hsp => sp_gone hN hi hln (sp_unsuite ok hsp)) (fun _ _ z => False.elim z)
    exact go hh w
  · cases fl with
    | next =>
      obtain ⟨t, h1, J', q⟩ := hsp
      exact wpAny_execs_nil ⟨t, h1, J'.ofTry ok, q⟩
    | brk =>
      obtain ⟨t, h1, J', q⟩ := hsp
      exact ⟨t, h1, J'.ofTry ok, q⟩
    | cont =>
      obtain ⟨t, h1, J', q⟩ := hsp
      exact ⟨t, h1, J'.ofTry ok, q⟩
    | ret u =>
      obtain ⟨v, t, h1, J', r, q⟩ := hsp
      exact ⟨v, t, h1, J'.ofTry ok, r, q⟩
end
end L2

set_option Elab.async false
set_option linter.all false
set_option maxRecDepth 100000
set_option maxHeartbeats 4000000
/-! SaidKit: what a lambda handed over tells, or which of two errors it raises, as a pair. -/
namespace L2
open PySem PySem.Spec PyProof.Rows EK LamX
/-- an error of cls with its dict d: of the class at C, its one value told as (m, value) -/
def errTold (C : Addr) (f m : Str) (Q : VK) : XK := fun cls d H => cls = .ref C ∧ ∃ (dd : Addr) (v : V), d = some dd ∧ H dd = some (.xd [(f, v)]) ∧ ∀ p, H p = none → Q (.ref p) (upd H p (.tup [.str m, v]))
def wSaid (K : PySem.W.Frag) (C1 C2 : Addr) (f1 f2 m1 m2 : Str) (Q : VK) : XK := fun cls d H => ∃ b1, PySem.W.exmOne K cls (.ref C1) = some b1 ∧ (b1 = true → errTold C1 f1 m1 Q cls d H) ∧
  (b1 = false → ∃ b2, PySem.W.exmOne K cls (.ref C2) = some b2 ∧ (b2 = true → errTold C2 f2 m2 Q cls d H) ∧ (b2 = false → False))
def TSaid (K : PySem.W.Frag) (C1 C2 : Addr) (f1 f2 m1 m2 : Str) : (XK → Hp → VK → Prop) → Hp → VK → Prop := fun tl H Q =>
  tl (wSaid K C1 C2 f1 f2 m1 m2 Q) H fun v H1 => [V.str "told", v].length ≤ sizeLine ∧ ∀ p, H1 p = none → Q (.ref p) (upd H1 p (.tup [.str "told", v]))
theorem said_gives {X : Cx} {Ng : List Str} {x a e1 e2 n1 n2 q f1 f2 m1 m2 : Str} {sg : Scope} {g C1 C2 : Addr} {cdg : Value} {j0 j1 j2 : Nat} {p1 p2 p3 p4 p5 p6 p7 p8 a1 a2 a3 a4 a5 a6 a7 b1 b2 b3 b4 b5 b6 b7 c1 c2 : Pos} {k0 k1 k2 : Nat} {mz : Value}
    (hN : Ng.Nodup) (hn1 : Ng[1]? = some n1) (hl1 : sg.names.lookup n1 = some .local) (hn2 : Ng[1]? = some n2)
    (ge1 : sg.names.lookup e1 = some .globalImplicit) (hm1 : X.mg e1 = some (.ref C1)) (de1 : (e1 == ("__debug__" : Str)) = false)
    (ge2 : sg.names.lookup e2 = some .globalImplicit) (hm2 : X.mg e2 = some (.ref C2)) (de2 : (e2 == ("__debug__" : Str)) = false)
    (T1 : XfC X.K C1) (T2 : XfC X.K C2) (no1 : PySem.W.findIn X.K (.ref C1) f1 = some none) (no2 : PySem.W.findIn X.K (.ref C2) f2 = some none) (dn : (n1 == ("__debug__" : Str)) = false) (cn : (n1 == ("__classdict__" : Str)) = false) (sk : sg.kind = .function)
    (h0 : ∀ f : Addr, (L2.start Ng [V.ref f])[0]? = some (some (V.ref f))) (hz1 : ∀ f : Addr, (L2.start Ng [V.ref f])[1]? = some none) :
    GivesTo X Ng x sg g cdg [.Try [.Return (some (.Tuple [.Constant (.str "told") j0 p1, .Call (.Name a p2) [] [] p3] k0 p4)) p5]
      [.ExceptHandler (some (.Name e1 a1)) (some n1) [.Return (some (.Tuple [.Constant (.str m1) j1 a2, .Attribute (.Name n1 a3) f1 a4] k1 a5)) a6] a7,
       .ExceptHandler (some (.Name e2 b1)) (some n2) [.Return (some (.Tuple [.Constant (.str m2) j2 b2, .Attribute (.Name n2 b3) f2 b4] k2 b5)) b6] b7] [] [] p8] a q (TSaid X.K C1 C2 f1 f2 m1 m2) := by
  obtain rfl : n1 = n2 := Option.some.inj (hn1.symm.trans hn2)
  intro f c' s H Q tl act hc h
  have hlen : 1 < (L2.start Ng [V.ref f]).length := by
    have z := hz1 f
    exact (List.getElem?_eq_some_iff.mp z).1
  have gl1 : Gl (cxOf C8.CX0 X.prog X.w X.K X.mg X.base Ng x sg g cdg X.A X.stack s H C8.E0).nox e1 := ge1
  have gl2 : Gl (cxOf C8.CX0 X.prog X.w X.K X.mg X.base Ng x sg g cdg X.A X.stack s H C8.E0).nox e2 := ge2
  refine ⟨_, pss_one (ps_tryC (X := (cxOf C8.CX0 X.prog X.w X.K X.mg X.base Ng x sg g cdg X.A X.stack s H C8.E0).nox)
      (tb := fun W D σ H => ∃ Ech : XK, (∀ cls d σ' H', Ech cls d H' → W cls d σ' H') ∧ σ[0]? = some (some (.ref f)) ∧ H c' = some (CodeO c' q) ∧ tl Ech H (fun v H1 => [V.str "told", v].length ≤ sizeLine ∧ ∀ p, H1 p = none → D.rt (.ref p) (upd H1 p (.tup [.str "told", v]))))
      (l := [⟨.ref C1, some 1, fun a cls d => tRet (tTup (tCons (tC (.str m1)) (tCons (tXf a cls d C1 f1 (tVar 1)) tNil)))⟩, ⟨.ref C2, some 1, fun a cls d => tRet (tTup (tCons (tC (.str m2)) (tCons (tXf a cls d C2 f2 (tVar 1)) tNil)))⟩])
      rfl rfl hN takes0 (fun W pn xe tk _ => ?_)
      (ClOk.as hn1 (by show Env.kindOf _ n1 = some NameKind.local; exact hl1) ⟨gl1, de1, .inl hm1⟩ (fun a oe cls d pn hz hf => pss_one (ps_ret (pe_tup (pa_cons pe_str (pa_cons (pe_xf T1 no1 hz hf (pe_var (i := 1) hn1 (Or.inl hl1) dn cn)) pa_nil)))))
        (ClOk.as hn1 (by show Env.kindOf _ n1 = some NameKind.local; exact hl1) ⟨gl2, de2, .inl hm2⟩ (fun a oe cls d pn hz hf => pss_one (ps_ret (pe_tup (pa_cons pe_str (pa_cons (pe_xf T2 no2 hz hf (pe_var (i := 1) hn1 (Or.inl hl1) dn cn)) pa_nil))))) .nil))), ?_⟩
  · refine ⟨fun pins s' σ H' D I h' => ?_⟩
    obtain ⟨Ech, hW, h1, h2, h3⟩ := h'
    have hp := act W pn xe Ech p2 p3 tk hW
    have hq : PSs ((cxOf C8.CX0 X.prog X.w X.K X.mg X.base Ng x sg g cdg X.A X.stack s H C8.E0).tr pn xe) [.Return (some (.Tuple [.Constant (.str "told") j0 p1, .Call (.Name a p2) [] [] p3] k0 p4)) p5] _ := pss_one (ps_ret (pe_tup (pa_cons pe_str (pa_cons hp pa_nil))))
    exact hq.run pins s' σ H' D I ⟨h1, h2, h3⟩
  · have hset : ∀ (σ : L2.St) (y : V), 1 < σ.length → (σ.set 1 (some y))[1]? = some (some y) := fun σ y h => by rw [List.getElem?_set_self h]
    have two : ∀ x y : V, [x, y].length ≤ sizeLine := fun x y => by show 2 ≤ sizeLine; decide
    refine ⟨wSaid X.K C1 C2 f1 f2 m1 m2 Q, fun cls d σ' H' ⟨b1, e1, y1, z1⟩ => ⟨b1, e1, fun hb a ha hl => ?_, fun hb => ?_⟩, h0 f, hc, h⟩
    · obtain ⟨ec, dd, v, ed, hd, q⟩ := y1 hb
      exact ⟨_, hset _ _ hl, rfl, ec, dd, _, v, ed, hd, look1 _ _, two _ _, q⟩
    · obtain ⟨b2, e2, y2, z2⟩ := z1 hb
      refine ⟨b2, e2, fun hb2 a ha hl => ?_, fun hb2 => z2 hb2⟩
      obtain ⟨ec, dd, v, ed, hd, q⟩ := y2 hb2
      exact ⟨_, hset _ _ hl, rfl, ec, dd, _, v, ed, hd, look1 _ _, two _ _, q⟩
end L2

set_option Elab.async false
set_option linter.all false
set_option maxRecDepth 100000
set_option maxHeartbeats 4000000
/-! SayKit: isinstance of the error that a suite holds; a call of what a slot holds, one of several defs; a said: try: a() / except .. / return word. -/
namespace L2
open PySem PySem.Spec PyProof.Rows EK LamX
def rIsX (K : PySem.W.Frag) (a : Addr) (cls : Value) (d : Option Addr) : List V → Hp → VK → Prop := fun xs H Q => ∃ (C dd : Addr) (fs : List (Str × V)) (c : V) (u : Value) (b : Bool), xs = [.ref a, c] ∧ cls = .ref C ∧ d = some dd ∧ H dd = some (.xd fs) ∧ ExcC K C ∧ ClsV c u ∧ PySem.W.kitOne K (.ref C) u = some b ∧ Q (.bl b) H
theorem call_isX {X : Cx} {a : Addr} {oe : Obj} {cls : Value} {d : Option Addr} {pn : List (Addr × Obj)} (hz : Zc cls d oe) (hf : ∃ vs, oe.data = .fields vs) : CallR (X.suite a ((a, oe) :: pn)) (.builtin "isinstance") (rIsX X.K a cls d) := by
  intro pins s σ H xs us Q I r h
  obtain ⟨C, dd, fs, c, u, b, rfl, rfl, rfl, ed, T, k, e, q⟩ := h
  obtain ⟨u1, u2, rfl, r1, r2⟩ := vals2 r
  have e2 := k.eq r2
  subst e2
  cases r1
  obtain ⟨ha, _⟩ := I.pin (a, oe) (List.mem_append_left _ List.mem_cons_self)
  obtain ⟨vs, hd⟩ := hf
  have hcl : (PySem.W.clsIn X.K C).isSome = true := by
    obtain ⟨cd, hc, _⟩ := PySem.W.any_some T.hd
    rw [hc]
    rfl
  have hx : ObjOk X.prog X.w H s.heap dd (.xd fs) := I.hok dd _ ed
  obtain ⟨mA, ⟨od, es, ep, ho, hr⟩, _⟩ := hx
  have J : PySem.W.InstAt s.heap a oe C (some od) := ⟨ha, hz.1, by unfold PySem.W.notCls; rw [hd] <;> rfl, by rw [hz.2]; exact ho⟩
  exact PySem.W.kia_one (PySem.W.kitx_exc (od := some od) hcl T.hg T.hk T.hs T.ha T.hn T.ht T.hm) I.kIn J e (fun z => nomatch z) fun tk => ⟨.bl b, H, I.tok tk, rfl, q⟩
/-- x(..), x a slot that holds one of several defs of one promise -/
def tCallF (i : Nat) (fs : List Addr) (sp : Sp) (E : XK) (t : TA) : TE := fun σ H Q => ∃ f ∈ fs, σ[i]? = some (some (.ref f)) ∧ t σ H fun vs H1 => sp vs H1 Q E
section
variable {X : Cx} {CX : CXT} {k i : Nat} {sp : Sp} {E : XK} {x : Str} {p pos : Pos} {e : Expr} {es : List Expr} {t : TA}
theorem pe_callF {fs : List Addr} (F : ∀ f ∈ fs, ∃ (fd : FuncData) (ps : List Str), FnOk X.prog X.w X.K X.mg X.base CX k f fd ps sp ∧ PySem.W.keepIn X.K (.ref f) = true ∧ Binds X.K fd ps []) (hr : Room k X.A) (hN : X.N[i]? = some x) (hv : Vis X.env.scope x) (hx : Passes CX X E) (ha : PA X (e :: es) t)
    (hdb : (x == ("__debug__" : Str)) = false := by decide) (hcd : (x == ("__classdict__" : Str)) = false := by decide)
    (he : starEach (e :: es) X.env = (false, eval e X.env) :: starEach es X.env := by rfl) (hpl : (backTo pos (starEach es X.env)).any (·.1) = false := by rfl) : PE X (.Call (.Name x p) (e :: es) [] pos) (tCallF i fs sp E t) := by
  refine ⟨fun pins s σ H Q I h => ?_⟩
  obtain ⟨f, hf, hs, ht⟩ := h
  obtain ⟨fd, ps, G, hk, hb⟩ := F f hf
  refine (pe_callL (i := i) (f := f) (sp := sp) (dvs := []) (E := E) G hr hN hv hk hb .nil hx ha hdb hcd he hpl).run pins s σ H Q I ⟨hs, ?_⟩
  have e0 : (fun (vs : List V) (H1 : Hp) => sp (vs ++ []) H1 Q E) = fun vs H1 => sp vs H1 Q E := by
    funext vs H1
    rw [List.append_nil]
  show t σ H (fun vs H1 => sp (vs ++ []) H1 Q E)
  rw [e0]
  exact ht
end
theorem ite_yes {b : Bool} {P R : Prop} (h : b = true) (p : P) : if b = true then P else R := by rw [if_pos h]; exact p
/-- an error of the class at C, its one value told as [m, value] -/
def errL (C : Addr) (f m : Str) (Q : VK) : XK := fun cls d H => cls = .ref C ∧ ∃ (dd : Addr) (v : V), d = some dd ∧ H dd = some (.xd [(f, v)]) ∧ ∀ p, H p = none → Q (.ref p) (upd H p (.lst [.str m, v]))
/-- the clause: what it makes of the error it catches -/
def ClGives (X : Cx) (C : Addr) (suite : List Stmt) (R : VK → XK) : Prop := ∃ ts : Addr → Value → Option Addr → TS,
  (∀ (a : Addr) (oe : Obj) (cls : Value) (d : Option Addr) (pn : List (Addr × Obj)), Zc cls d oe → (∃ vs, oe.data = .fields vs) → PSs (X.suite a ((a, oe) :: pn)) suite (ts a cls d)) ∧
  ∀ (a : Addr) (cls : Value) (d : Option Addr) (D : Ends) (σ : St) (H : Hp), 2 < σ.length → H a = none → R D.rt cls d H → ts a cls d (D.drop 1) (σ.set 1 (some (.ref a))) H
end L2

set_option Elab.async false
set_option linter.all false
set_option maxRecDepth 100000
set_option maxHeartbeats 4000000
/-! ValKit: d.values(), sum and list of it; math.comb. -/
namespace L2
open PySem PySem.Spec PyProof.Rows
section
variable {X : Cx}
abbrev vwO (p d : Addr) : HO := viewO "dict_values" p d
def rVals : V → List V → Hp → VK → Prop := fun x xs H Q => ∃ (a : Addr) (kvs : List (Key × V)), x = .ref a ∧ xs = [] ∧ H a = some (.dK kvs) ∧ ∀ p, H p = none → Q (.ref p) (upd H p (vwO p a))
theorem mt_values : MtR X "dict.values" rVals := by
  intro pins s σ H x xs v us Q I rx rxs h
  obtain ⟨a, kvs, rfl, rfl, ha, q⟩ := h
  cases rx
  cases rxs
  obtain ⟨_, hsys, vs, rel, dof⟩ := dk_of I.hok ha
  refine call_meetsIn F.slot_dict_values dof.typeIs F.entry_dict_values (F.args_dict_values_1 _) (meets_dict_values (mixKind X.prog X.w) a hsys) ⟨⟨vs, dof⟩, ?_⟩
  exact ⟨.ref s.heap.objs.size, upd H s.heap.objs.size (vwO s.heap.objs.size a), I.laid (t' := s.toks) (fun b u e => Heap.get?_push_of_some _ e) (Nat.le_refl _) (viewO_ok (Heap.get?_push_size _ rfl)), rfl, q _ (I.hok.fresh (Nat.le_refl _))⟩
theorem preSum_ints (ns : List Int) : ∀ j, preSum (fun i => ns.getD i 0) j = (ns.take j).sum := by
  intro j
  induction j with
  | zero => simp [preSum]
  | succ j ih =>
    rw [preSum, ih]
    by_cases h : j < ns.length
    · rw [List.getD_eq_getElem?_getD, List.getElem?_eq_getElem h, List.take_succ_eq_append_getElem h, List.sum_append]
      simp only [Option.getD_some, List.sum_cons, List.sum_nil, Int.add_zero]
    · rw [List.take_of_length_le (by omega), List.take_of_length_le (by omega), List.getD_eq_getElem?_getD, List.getElem?_eq_none (by omega)]
      simp
def rSumV : List V → Hp → VK → Prop := fun xs H Q => ∃ (p a : Addr) (kvs : List (Key × V)) (ns : List Int), xs = [.ref p] ∧ H p = some (vwO p a) ∧ H a = some (.dK kvs) ∧ kvs.map (·.2) = ns.map V.int ∧ Q (.int ns.sum) H
theorem cr_sumV (hc : X.calm = true) : CallR X (.builtin "sum") rSumV := by
  intro pins s σ H xs us Q I r h
  obtain ⟨p, a, kvs, ns, rfl, hp, ha, hv, q⟩ := h
  rw [Vals.ref1 r]
  have vw : s.heap.get? p = some (DSub.viewOb "dict_values" a) := (show ObjOk X.prog X.w H s.heap p (vwO p a) from I.hok p _ hp).1
  obtain ⟨_, hsys, vs, rel, dof⟩ := dk_of I.hok ha
  obtain ⟨ep, dat⟩ := dof.dictAt
  obtain ⟨ob, es, ho, ex, hdat, hko, hpr, hnd⟩ := id dat
  have hlt : a < s.heap.objs.size := Heap.lt_size ho
  have hlv : vs.length = ns.length := by
    have e1 := congrArg List.length hv
    rw [List.length_map, List.length_map] at e1
    rw [← e1]
    exact (KV.length rel).symm
  have hval : ∀ (i : Nat) (v : Value), (∃ k, vs[i]? = some (k, v)) → ∃ t, v = Value.int (ns.getD i 0) t := fun i v ⟨k, hk⟩ => by
    obtain ⟨x, h1, h2⟩ := KV.at' rel hk
    have e1 : (kvs.map (·.2))[i]? = some x := by rw [List.getElem?_map, h1] <;> rfl
    rw [hv, List.getElem?_map] at e1
    obtain ⟨j, hj, e2⟩ := Option.map_eq_some_iff.mp e1
    subst e2
    obtain ⟨t, e3⟩ := h2
    refine ⟨t, ?_⟩
    rw [e3, List.getD_eq_getElem?_getD, hj] <;> rfl
  refine call_sum_walkAnyS (wpAny_pyIter_values (v := p) (d := a) ⟨_, vw, rfl, rfl⟩ dat ?_)
  refine ⟨_, _, _, _, _, _, _, fun i => ns.getD i 0, rfl, (Walks.dictValues (knd := mixKind X.prog X.w) (A := X.A.in1) (I.ok.hd hc) s.heap.objs.size a (Nat.ne_of_lt hlt) vs ep).toS,
    ⟨⟨_, Heap.get?_push_size _ rfl, rfl, rfl⟩, dat.keep fun b u e => Heap.get?_push_of_some _ e⟩, fun b hb => ?_, hval, fun s' t' hm => ?_⟩
  · rcases List.mem_cons.mp hb with e | hb
    · rw [e, Heap.size_push]
      exact Nat.lt_succ_self _
    · rw [List.mem_singleton.mp hb, Heap.size_push]
      exact Nat.lt_succ_of_lt hlt
  · have hk : ∀ b o, s.heap.get? b = some o → s'.heap.get? b = some o := fun b o e =>
      hm.heap b o (fun hI => absurd (Heap.lt_size e) (by rw [List.mem_singleton.mp hI]; exact Nat.lt_irrefl _)) (Heap.get?_push_of_some _ e)
    rw [Moved.eq_with hm]
    refine ⟨.int _, H, I.kept (t' := s'.toks) hk, ⟨t', rfl⟩, ?_⟩
    rw [preSum_ints, hlv, List.take_length]
    exact q
def rListV : List V → Hp → VK → Prop := fun xs H Q => ∃ (p a : Addr) (kvs : List (Key × V)), xs = [.ref p] ∧ H p = some (vwO p a) ∧ H a = some (.dK kvs) ∧ ∀ r, H r = none → Q (.ref r) (upd H r (.lst (kvs.map (·.2))))
theorem vals_at {us : List Value} {xs : List V} (hl : us.length = xs.length) (h : ∀ (i : Nat) (u : Value), us[i]? = some u → ∃ x : V, xs[i]? = some x ∧ RelV x u) : Vals xs us := by
  induction xs generalizing us with
  | nil =>
    cases us with
    | nil => exact .nil
    | cons u us => cases hl
  | cons x xs ih =>
    cases us with
    | nil => cases hl
    | cons u us =>
      obtain ⟨y, e, r⟩ := h 0 u rfl
      cases e
      exact .cons r (ih (by simpa using hl) fun i u hu => by simpa using h (i + 1) u (by simpa using hu))
theorem cr_listV (hc : X.calm = true) : CallR X (.type "list") rListV := by
  intro pins s σ H xs us Q I r h
  obtain ⟨p, a, kvs, rfl, hp, ha, q⟩ := h
  rw [Vals.ref1 r]
  have vw : s.heap.get? p = some (DSub.viewOb "dict_values" a) := (show ObjOk X.prog X.w H s.heap p (vwO p a) from I.hok p _ hp).1
  obtain ⟨hz, hsys, vs, rel, dof⟩ := dk_of I.hok ha
  obtain ⟨ep, dat⟩ := dof.dictAt
  have hl : kvs.length = vs.length := KV.length rel
  refine PySem.W.kdl_call (PySem.W.kdl_values (knd := mixKind X.prog X.w) (kvs := vs) (ep := ep)) (I.ok.hd hc) ⟨⟨_, vw, rfl, rfl⟩, dat⟩ (by omega) fun h' tk acc c hk hS hacc => ?_
  refine ⟨.ref s.heap.objs.size, _, I.laid (t' := tk) (a := s.heap.objs.size) (o := .lst (kvs.map (·.2))) hk (Nat.le_refl _) ⟨by rw [List.length_map]; exact hz, acc.toList, c, vals_at (by rw [Array.length_toList, hacc.1, List.length_map, hl]) fun i u hu => ?_, by rw [Array.toArray_toList]; exact hS⟩, rfl, q _ (I.hok.fresh (Nat.le_refl _))⟩
  obtain ⟨k, e⟩ := hacc.2 i u (by rw [← Array.getElem?_toList]; exact hu)
  obtain ⟨x, h1, h2⟩ := KV.at' rel e
  exact ⟨x, by rw [List.getElem?_map, h1] <;> rfl, h2⟩
def rComb : List V → Hp → VK → Prop := fun vs H Q => ∃ a b : Int, vs = [.int a, .int b] ∧ 0 ≤ a ∧ 0 ≤ b ∧ a < 2 ^ 64 ∧ b ≤ 9000 ∧ Q (.int (PySem.W.mcComb a b)) H
theorem cr_comb : CallR X (.builtin "math.comb") rComb := by
  intro pins s σ H vs us Q I r h
  obtain ⟨a, b, rfl, ha, hb, ha2, hk, q⟩ := h
  obtain ⟨t, u, rfl⟩ := Vals.int2 r
  exact PySem.W.mc_comb ha hb ha2 (.inl hk) fun _ => ⟨.int _, H, I.tok _, ⟨_, rfl⟩, q⟩
end
end L2

set_option Elab.async false
set_option linter.all false
set_option maxRecDepth 100000
set_option maxHeartbeats 4000000
namespace T88
open PySem PySem.Spec PyProof.Rows L2 EK
abbrev sIsNum : Stmt := top 5
abbrev sCkN : Stmt := top 6
abbrev sLR : Stmt := top 8
abbrev sDiv : Stmt := top 14
/-- a thing whose kind is known -/
inductive Pl (H : Hp) : V → Prop
  | non : Pl H .non
  | int (i : Int) : Pl H (.int i)
  | str (z : Str) : Pl H (.str z)
  | bl (b : Bool) : Pl H (.bl b)
  | tup {a : Addr} {xs : List V} (e : H a = some (.tup xs)) : Pl H (.ref a)
  | lst {a : Addr} {xs : List V} (e : H a = some (.lst xs)) : Pl H (.ref a)
  | dct {a : Addr} {kvs : List (Key × V)} (e : H a = some (.dK kvs)) : Pl H (.ref a)
theorem Pl.keep {H H' : Hp} {x : V} (h : Pl H x) (s : Same H H') : Pl H' x := by
  cases h with
  | non => exact .non
  | int i => exact .int i
  | str z => exact .str z
  | bl b => exact .bl b
  | tup e => exact .tup (s _ _ e)
  | lst e => exact .lst (s _ _ e)
  | dct e => exact .dct (s _ _ e)
theorem Pl.keepB {wl : Addr} {H H' : Hp} {x : V} (h : Pl H x) (s : KeepB wl H H') (n : x ≠ .ref wl) : Pl H' x := by
  cases h with
  | non => exact .non
  | int i => exact .int i
  | str z => exact .str z
  | bl b => exact .bl b
  | @tup a xs e => exact .tup (s _ _ e fun z => n (by rw [z]))
  | @lst a xs e => exact .lst (s _ _ e fun z => n (by rw [z]))
  | @dct a xs e => exact .dct (s _ _ e fun z => n (by rw [z]))
def isIntV : V → Bool
  | .int _ => true
  | .bl _ => true
  | _ => false
def isBlV : V → Bool
  | .bl _ => true
  | _ => false
theorem Pl.isInt {K : PySem.W.Frag} {H : Hp} {x : V} (h : Pl H x) : ∃ t, TyX K H x t ∧ PySem.W.kitOne K t (.type "int") = some (isIntV x) := by
  cases h with
  | non => exact ⟨_, .base .non, kit_ty (r := false) (by decide +kernel)⟩
  | int i => exact ⟨_, .base (.int i), kit_ty (r := true) (by decide +kernel)⟩
  | str z => exact ⟨_, .base (.str z), kit_ty (r := false) (by decide +kernel)⟩
  | bl b => exact ⟨_, .base (.bl b), kit_ty (r := true) (by decide +kernel)⟩
  | tup e => exact ⟨_, .base (.tup e), kit_ty (r := false) (by decide +kernel)⟩
  | lst e => exact ⟨_, .base (.lst e), kit_ty (r := false) (by decide +kernel)⟩
  | dct e => exact ⟨_, .base (.dK e), kit_ty (r := false) (by decide +kernel)⟩
theorem Pl.isBl {K : PySem.W.Frag} {H : Hp} {x : V} (h : Pl H x) : ∃ t, TyX K H x t ∧ PySem.W.kitOne K t (.type "bool") = some (isBlV x) := by
  cases h with
  | non => exact ⟨_, .base .non, kit_ty (r := false) (by decide +kernel)⟩
  | int i => exact ⟨_, .base (.int i), kit_ty (r := false) (by decide +kernel)⟩
  | str z => exact ⟨_, .base (.str z), kit_ty (r := false) (by decide +kernel)⟩
  | bl b => exact ⟨_, .base (.bl b), kit_ty (r := true) (by decide +kernel)⟩
  | tup e => exact ⟨_, .base (.tup e), kit_ty (r := false) (by decide +kernel)⟩
  | lst e => exact ⟨_, .base (.lst e), kit_ty (r := false) (by decide +kernel)⟩
  | dct e => exact ⟨_, .base (.dK e), kit_ty (r := false) (by decide +kernel)⟩
def numB (x : V) (m : Int) : Bool := match x with
  | .int i => decide (m ≤ i)
  | _ => false
structure TxtC (K : PySem.W.Frag) (mg : Str → Option Value) : Prop where
  isinstance : mg "isinstance" = none
  int : mg "int" = none
  bool : mg "bool" = none
  gcd : mg "gcd" = some (.builtin "math.gcd")
  len : mg "len" = none
  range : mg "range" = none
  sorted : mg "sorted" = none
def spNumber : Sp := fun vs H Q _ => ∃ x m, vs = [x, .int m] ∧ Pl H x ∧ Q (.bl (numB x m)) H
def spCkN : Sp := fun vs H Q _ => ∃ i m : Int, vs = [.int i, .int m] ∧ m ≤ i ∧ Q .non H
/-- what least_runs answers -/
def leastR (p q : Int) : Int := if Nat.gcd p.natAbs q.natAbs = 1 then 2 else 4
def spLR : Sp := fun vs H Q _ => ∃ p q : Int, vs = [.int p, .int q] ∧ 1 ≤ p ∧ 1 ≤ q ∧ Q (.int (leastR p q)) H
def spDiv : Sp := fun vs H Q _ => ∃ a b : Nat, vs = [.int (a : Int), .int (b : Int)] ∧ Q (.int ((Nat.gcd a b : Nat) : Int)) H
section
variable {P : Program} {w : World} {K : PySem.W.Frag} {mg : Str → Option Value} {base : Heap}
theorem scNum : FnScope ["value", "least"] ["value", "least"] (defScope sIsNum) := ⟨rfl, rfl, rfl, by decide +kernel, rfl, by decide +kernel, by decide +kernel⟩
theorem ok_isNumber {f : Addr} {fd : FuncData} (F : Fun K "is_number" "is_number" sIsNum f fd) (T : TxtC K mg) : FnOk P w K mg base CX0 1 f fd ["value", "least"] spNumber := by
  refine F.ok scNum (fun vs H Q E h => ?_) (fun cdv A outer s H vs Q E hr h => ?_)
  · obtain ⟨x, m, rfl, _⟩ := h
    rfl
  · obtain ⟨x, m, rfl, hp, k⟩ := h
    have nd := scNum.nd
    refine ⟨_, (pss_one (ps_ret (pe_and (pe_callB call_isi (by rfl) T.isinstance (by decide +kernel) (pa_cons (pv 0) (pa_cons (pe_bltn (v := .ty "int") rfl T.int (by decide +kernel) rfl) pa_nil))) (pe_and (pe_not (pe_callB call_isi (by rfl) T.isinstance (by decide +kernel) (pa_cons (pv 0) (pa_cons (pe_bltn (v := .ty "bool") rfl T.bool (by decide +kernel) rfl) pa_nil)))) (pe_one (pe_cmpR op_ge (pv 0) (pv 1) (nomark _))))))), ?_⟩
    obtain ⟨t, ht, hk⟩ := hp.isInt (K := K)
    obtain ⟨t2, ht2, hk2⟩ := hp.isBl (K := K)
    refine ⟨_, rfl, _, _, _, _, _, rfl, .ty _, ht, hk, _, rfl, ?_⟩
    cases x with
    | int i =>
      exact ⟨_, rfl, _, _, _, _, _, rfl, .ty _, ht2, hk2, _, rfl, _, rfl, _, rfl, _, rfl, _, _, rfl, rfl, k⟩
    | bl b => exact ⟨_, rfl, _, _, _, _, _, rfl, .ty _, ht2, hk2, _, rfl, _, rfl, k⟩
    | _ => exact k
theorem scCkN : FnScope ["number", "least"] ["number", "least"] (defScope sCkN) := ⟨rfl, rfl, rfl, by decide +kernel, rfl, by decide +kernel, by decide +kernel⟩
theorem ok_ckN {f fN : Addr} {fd fdN : FuncData} (F : Fun K "check_number" "check_number" sCkN f fd)
    (GN : FnOk P w K mg base CX0 1 fN fdN ["value", "least"] spNumber) (gN : mg "is_number" = some (.ref fN)) (kN : PySem.W.keepIn K (.ref fN) = true) (bN : Binds K fdN ["value", "least"] []) :
    FnOk P w K mg base CX0 2 f fd ["number", "least"] spCkN := by
  refine F.ok scCkN (fun vs H Q E h => ?_) (fun cdv A outer s H vs Q E hr h => ?_)
  · obtain ⟨x, m, rfl, _⟩ := h
    rfl
  · obtain ⟨x, m, rfl, hm, k⟩ := h
    have nd := scCkN.nd
    have hr1 : Room 1 _ := hr
    refine ⟨_, pss_one (ps_if (pt_not (pt_val (pe_call GN hr1 rfl gN kN bN .nil pass0 (pa_cons (pv 0) (pa_cons (pv 1) pa_nil))))) pss_never pss_nil), ?_⟩
    refine ⟨_, rfl, _, rfl, .int x, m, rfl, .int _, _, rfl, ?_⟩
    rw [show numB (.int x) m = true from decide_eq_true hm]
    exact k
theorem scLR : FnScope ["p", "q"] ["p", "q"] (defScope sLR) := ⟨rfl, rfl, rfl, by decide +kernel, rfl, by decide +kernel, by decide +kernel⟩
theorem ok_LR {f fCN : Addr} {fd fdCN : FuncData} (F : Fun K "least_runs" "least_runs" sLR f fd) (T : TxtC K mg)
    (GCN : FnOk P w K mg base CX0 2 fCN fdCN ["number", "least"] spCkN) (gCN : mg "check_number" = some (.ref fCN)) (kCN : PySem.W.keepIn K (.ref fCN) = true) (bCN : Binds K fdCN ["number", "least"] []) :
    FnOk P w K mg base CX0 3 f fd ["p", "q"] spLR := by
  refine F.ok scLR (fun vs H Q E h => ?_) (fun cdv A outer s H vs Q E hr h => ?_)
  · obtain ⟨p, q, rfl, _⟩ := h
    rfl
  · obtain ⟨p, q, rfl, hp, hq, k⟩ := h
    have nd := scLR.nd
    have hr2 : Room 2 _ := hr
    refine ⟨_, pss_cons (ps_expr (pe_call GCN hr2 rfl gCN kCN bCN .nil pass0 (pa_cons (pv 0) (pa_cons pe_int pa_nil)))) (pss_cons (ps_expr (pe_call GCN hr2 rfl gCN kCN bCN .nil pass0 (pa_cons (pv 1) (pa_cons pe_int pa_nil)))) (pss_one (ps_ret (pe_ifExp (pt_cmpR op_eq (pe_callBfun cr_gcd (by rfl) T.gcd (pa_cons (pv 0) (pa_cons (pv 1) pa_nil))) pe_int (nomark _)) pe_int pe_int)))), ?_⟩
    refine ⟨_, rfl, p, 1, rfl, hp, _, rfl, q, 1, rfl, hq, ?_⟩
    refine ⟨_, rfl, _, rfl, p, q, rfl, rfl, ?_⟩
    unfold leastR at k
    by_cases h : Nat.gcd p.natAbs q.natAbs = 1
    · rw [if_pos h] at k
      rw [decide_eq_true (by rw [h]; rfl)]
      exact ⟨true, rfl, k⟩
    · rw [if_neg h] at k
      rw [decide_eq_false (fun z => h (by injection z with z; exact_mod_cast z))]
      exact ⟨false, rfl, k⟩
theorem scDiv : FnScope ["_law_one_here", "_law_other"] ["_law_one_here", "_law_other"] (defScope sDiv) := ⟨rfl, rfl, rfl, by decide +kernel, rfl, by decide +kernel, by decide +kernel⟩
theorem ok_Div {f : Addr} {fd : FuncData} (F : Fun K "_law_divisor" "_law_divisor" sDiv f fd) (T : TxtC K mg) : FnOk P w K mg base CX0 1 f fd ["_law_one_here", "_law_other"] spDiv := by
  refine F.ok scDiv (fun vs H Q E h => ?_) (fun cdv A outer s H vs Q E hr h => ?_)
  · obtain ⟨a, b, rfl, _⟩ := h
    rfl
  · obtain ⟨a, b, rfl, k⟩ := h
    have nd := scDiv.nd
    refine ⟨_, (pss_cons (ps_while PassesOwn.never (pt_cmpR op_ne (pv 1) pe_int (nomark _)) (pss_one (ps_par (i := 0) (j := 1) (by rfl) nd rfl rfl (by decide) rfl rfl (pa_cons (pv 1) (pa_cons (pe_op op_mod (pe_callTy call_int1 (by rfl) T.int (by decide +kernel) (pa_cons (pv 0) pa_nil)) (pv 1)) pa_nil)) (by rfl))))
      (pss_one (ps_ret (pv 0)))), ?_⟩
    refine ⟨fun m σ H' => ∃ x y : Nat, m = y ∧ σ = [some (.int (x : Int)), some (.int (y : Int))] ∧ H' = H ∧ Nat.gcd x y = Nat.gcd a b, ⟨b, a, b, rfl, rfl, rfl, rfl⟩, ?_⟩
    rintro m σ H' ⟨x, y, rfl, rfl, rfl, hg⟩
    refine ⟨_, rfl, ?_⟩
    by_cases h : m = 0
    · subst h
      refine ⟨rfl, false, by rw [decide_eq_true (show V.int ((0 : Nat) : Int) = V.int 0 from rfl)]; rfl, ?_⟩
      refine iteN rfl ?_
      rw [Nat.gcd_zero_right] at hg
      subst hg
      exact ⟨_, rfl, k⟩
    · have ne : ¬ (V.int ((m : Nat) : Int) = V.int 0) := fun z => by
        injection z with z
        omega
      refine ⟨rfl, true, by rw [decide_eq_false ne]; rfl, ?_⟩
      refine ite_yes rfl ?_
      refine ⟨fun σ' H'' => σ' = [some (.int (m : Int)), some (.int ((x % m : Nat) : Int))] ∧ H'' = H', fun σ' H'' h2 => ⟨x % m, Nat.mod_lt _ (by omega), m, x % m, rfl, h2.1, h2.2, by rw [← hg, Nat.gcd_comm m, ← Nat.gcd_rec, Nat.gcd_comm]⟩, ?_⟩
      refine ⟨_, rfl, _, rfl, .inl ⟨_, rfl, _, rfl, _, _, rfl, rfl, (by omega : (0 : Int) < (m : Int)), _, _, rfl, ?_, rfl⟩⟩
      show [some (V.int (m : Int)), some (V.int ((x : Int) % (m : Int)))] = _
      rw [Int.natCast_emod]
end
end T88

set_option Elab.async false
set_option linter.all false
set_option maxRecDepth 100000
set_option maxHeartbeats 4000000
/-! DataKit: sorted, min of data at any depth and length, as rules of the layer. -/
namespace L2
open PySem PySem.Spec PyProof.Rows
section
variable {X : Cx} {pins : List (Addr × Obj)} {σ : St} {H : Hp} {s : Shared}
theorem each_vals (I : Inv X pins σ H s) : ∀ {bs : List (V × PyData)} {us : List Value}, Vals (bs.map (·.1)) us → (∀ b ∈ bs, Dp X.K H b.1 b.2) → PySem.W.EachIs (fun v b => RelV b.1 v) us bs ∧ PySem.W.EachIs (fun v b => ∃ as, Reads s.heap v b.2 as) us bs
  | [], _, r, _ => by
    cases r
    exact ⟨.nil, .nil⟩
  | b :: bs, _, r, h => by
    cases r with
    | cons r1 r2 =>
      obtain ⟨e1, e2⟩ := each_vals I r2 fun c hc => h c (List.mem_cons_of_mem _ hc)
      exact ⟨.cons r1 e1, .cons (Dp.reads I _ _ _ (h b List.mem_cons_self) r1) e2⟩
theorem vals_each : ∀ {us : List Value} {bs : List (V × PyData)}, PySem.W.EachIs (fun v b => RelV b.1 v) us bs → Vals (bs.map (·.1)) us
  | _, _, .nil => .nil
  | _, _, .cons r t => .cons r (vals_each t)
/-- sorted(xs) of data that are alike -/
def rSortedD (K : PySem.W.Frag) : List V → Hp → VK → Prop := fun vs H Q => ∃ (a : Addr) (bs : List (V × PyData)), vs = [V.ref a] ∧ SqL K H a (bs.map (·.1)) ∧ (∀ b ∈ bs, Dp K H b.1 b.2) ∧ PySem.W.AllAlike (bs.map (·.2)) ∧ PySem.W.Sortable (bs.map (·.2)) ∧ (∀ b ∈ bs, b.2.depth ≤ 50) ∧
  ∀ p, H p = none → Q (.ref p) (upd H p (.lst ((bs.mergeSort (PySem.W.dataLe false (·.2))).map (·.1))))
theorem cr_sortedD (hu : X.A.units + 64 < cLine) : CallR X (.builtin "sorted") (rSortedD X.K) := by
  intro pins s σ H vs us Q I r h
  obtain ⟨a, bs, rfl, hs, hd, hal, hk, hdep, q⟩ := h
  obtain ⟨its, rv, hl, hz⟩ := I.list hs
  obtain ⟨u, rfl, ru⟩ := vals1 r
  obtain rfl : u = Value.ref a := ru
  obtain ⟨e1, e2⟩ := each_vals I rv hd
  rw [List.length_map] at hz
  refine PySem.W.sorted_data (enc := fun b : V × PyData => b.2) hl.isList e1 e2 hal hk hz (fun b hb => by have := hdep b hb; omega) fun out hlen ho => ?_
  obtain ⟨n, hn⟩ := sortedAll_at s.heap its out.toArray
  have rv2 := vals_each ho
  exact ⟨.ref (s.heap.objs.size + 1), _, I.laid (t' := s.toks) (a := s.heap.objs.size + 1) (o := .lst ((bs.mergeSort (PySem.W.dataLe false (·.2))).map (·.1))) (fun b o e => sortedAll_old e) (Nat.le_succ _) ⟨by rw [rv2.length, hlen]; exact hz, out, n, rv2, hn⟩, rfl, q _ (I.hok.fresh (Nat.le_succ _))⟩
/-- min(xs) of texts, one at least -/
def minS (x : Str) (xs : List Str) : Str := xs.foldl (fun a y => if decide (y.cps.toList < a.cps.toList) = true then y else a) x
theorem minD_strs (x : Str) : ∀ xs : List Str, PySem.W.minD (.str x) (xs.map PyData.str) = .str (minS x xs) := by
  intro xs
  induction xs generalizing x with
  | nil => rfl
  | cons y ys ih =>
    show PySem.W.minD (if PySem.W.dataLt (.str y) (.str x) = true then .str y else .str x) (ys.map PyData.str) = .str (minS (if decide (y.cps.toList < x.cps.toList) = true then y else x) ys)
    rw [PySem.W.dataLt_str]
    split
    · exact ih y
    · exact ih x
theorem reads_strs {h : Heap} : ∀ {xs : List Str} {us : List Value}, Vals (xs.map V.str) us → ∃ as, ReadsAll h us (xs.map PyData.str) as
  | [], _, r => by
    cases r
    exact ⟨_, .nil⟩
  | x :: xs, _, r => by
    cases r with
    | cons r1 r2 =>
      obtain ⟨t, rfl⟩ := r1
      obtain ⟨as, z⟩ := reads_strs (h := h) r2
      exact ⟨_, .cons (.str x t) z⟩
theorem depth_strs : ∀ xs : List Str, PyData.depthAll (xs.map PyData.str) ≤ 1
  | [] => by simp [PyData.depthAll]
  | x :: xs => by
    have := depth_strs xs
    simp only [List.map_cons, PyData.depthAll, PyData.depth]
    omega
def rMinS (K : PySem.W.Frag) : List V → Hp → VK → Prop := fun vs H Q => ∃ (a : Addr) (x : Str) (xs : List Str), vs = [V.ref a] ∧ SqL K H a ((x :: xs).map V.str) ∧ Q (.str (minS x xs)) H
theorem cr_minS (hc : X.calm = true) (hu : X.A.units + 64 < cLine) : CallR X (.builtin "min") (rMinS X.K) := by
  intro pins s σ H vs us Q I r h
  obtain ⟨a, x, xs, rfl, hs, q⟩ := h
  obtain ⟨its, rv, hl, hz⟩ := I.list hs
  obtain ⟨u, rfl, ru⟩ := vals1 r
  obtain rfl : u = Value.ref a := ru
  obtain ⟨as, hr⟩ := reads_strs (h := s.heap) rv
  have hdep := depth_strs (x :: xs)
  refine PySem.W.min_list_data (x := .str x) (xs := xs.map PyData.str) (I.ok.hd hc) hl.isList (by simpa using hr) ⟨fun y hy z hz => ?_, fun y hy => ?_⟩ (by have : PyData.depthAll (PyData.str x :: xs.map PyData.str) ≤ 1 := hdep; omega) fun i v h' tk bs hv hrd hk => ?_
  · obtain ⟨y', _, rfl⟩ := List.mem_map.mp (show y ∈ (x :: xs).map PyData.str from hy)
    obtain ⟨z', _, rfl⟩ := List.mem_map.mp (show z ∈ (x :: xs).map PyData.str from hz)
    simp [PySem.W.alike]
  · obtain ⟨y', _, rfl⟩ := List.mem_map.mp (show y ∈ (x :: xs).map PyData.str from hy)
    exact fun z => nomatch z
  · rw [minD_strs] at hrd
    cases hrd with
    | str _ t => exact ⟨.str (minS x xs), H, I.kept (t' := tk) hk, ⟨t, rfl⟩, q⟩
end
end L2

set_option Elab.async false
set_option linter.all false
set_option maxRecDepth 100000
set_option maxHeartbeats 4000000
/-! SortKit: a list put in order, as a plain function that evaluates. -/
namespace L2
open PySem
section
variable {α : Type} (le : α → α → Bool)
def ins (a : α) : List α → List α
  | [] => [a]
  | b :: r => if le a b = true then a :: b :: r else b :: ins a r
def isort : List α → List α
  | [] => []
  | a :: r => ins le a (isort r)
theorem ins_perm (a : α) : ∀ l, (ins le a l).Perm (a :: l)
  | [] => .refl _
  | b :: r => by
    unfold ins
    split
    · exact .refl _
    · exact ((ins_perm a r).cons b).trans (.swap a b r)
theorem isort_perm : ∀ l, (isort le l).Perm l
  | [] => .refl _
  | a :: r => (ins_perm le a _).trans ((isort_perm r).cons a)
variable (trans : ∀ x y z, le x y = true → le y z = true → le x z = true) (total : ∀ x y, (le x y || le y x) = true)
include trans total
theorem ins_sorted (a : α) : ∀ {l : List α}, l.Pairwise (fun x y => le x y = true) → (ins le a l).Pairwise (fun x y => le x y = true)
  | [], _ => List.pairwise_singleton _ _
  | b :: r, h => by
    obtain ⟨h1, h2⟩ := List.pairwise_cons.mp h
    unfold ins
    split
    · rename_i q
      refine List.pairwise_cons.mpr ⟨fun c hc => ?_, h⟩
      rcases List.mem_cons.mp hc with rfl | hc
      · exact q
      · exact trans _ _ _ q (h1 c hc)
    · rename_i q
      refine List.pairwise_cons.mpr ⟨fun c hc => ?_, ins_sorted a h2⟩
      have hc2 := (ins_perm le a r).mem_iff.mp hc
      rcases List.mem_cons.mp hc2 with rfl | hc2
      · have t := total c b
        rw [Bool.or_eq_true] at t
        exact t.resolve_left q
      · exact h1 c hc2
theorem isort_sorted : ∀ l : List α, (isort le l).Pairwise (fun x y => le x y = true)
  | [] => List.Pairwise.nil
  | a :: r => ins_sorted le trans total a (isort_sorted r)
omit trans total in
theorem sorted_uniq : ∀ {l m : List α}, (∀ x ∈ l, ∀ y ∈ l, le x y = true → le y x = true → x = y) → l.Perm m → l.Pairwise (fun x y => le x y = true) → m.Pairwise (fun x y => le x y = true) → l = m
  | [], m, _, p, _, _ => by rw [List.nil_perm.mp p]
  | a :: l, m, an, p, h1, h2 => by
    cases m with
    | nil => exact absurd p.length_eq (by simp)
    | cons b m =>
      obtain ⟨s1, s2⟩ := List.pairwise_cons.mp h1
      obtain ⟨t1, t2⟩ := List.pairwise_cons.mp h2
      have e : a = b := by
        have ha : a ∈ b :: m := p.mem_iff.mp List.mem_cons_self
        have hb : b ∈ a :: l := p.mem_iff.mpr List.mem_cons_self
        rcases List.mem_cons.mp ha with e | ha
        · exact e
        rcases List.mem_cons.mp hb with e | hb2
        · exact e.symm
        exact an _ List.mem_cons_self _ hb (s1 b hb2) (t1 a ha)
      subst e
      rw [sorted_uniq (fun x hx y hy => an x (List.mem_cons_of_mem _ hx) y (List.mem_cons_of_mem _ hy)) p.cons_inv s2 t2]
theorem msort_isort (l : List α) (an : ∀ x ∈ l, ∀ y ∈ l, le x y = true → le y x = true → x = y) : l.mergeSort le = isort le l := by
  refine sorted_uniq le (fun x hx y hy => an x ((List.mergeSort_perm l le).mem_iff.mp hx) y ((List.mergeSort_perm l le).mem_iff.mp hy)) ((List.mergeSort_perm l le).trans (isort_perm le l).symm) ?_ (isort_sorted le trans total l)
  exact List.pairwise_mergeSort (fun a b c => trans a b c) (fun a b => total a b) l
end
/-- a sign and its place, as data -/
def skey (cs : List Nat) (i : Nat) : PyData := .tuple [.str ⟨#[cs.getD i 0]⟩, .int i]
/-- a pair of an address and its place, by sign and place -/
def dle {β : Type} (k : β → PyData) : β → β → Bool := PySem.W.dataLe false k
theorem dle_trans {β : Type} (k : β → PyData) (x y z : β) (h1 : dle k x y = true) (h2 : dle k y z = true) : dle k x z = true := (PySem.W.sortLe_total (PyProof.Rows.listOrd PyProof.Rows.itemOrd) false fun b => PySem.W.keyToks (k b)).trans x y z h1 h2
theorem dle_total {β : Type} (k : β → PyData) (x y : β) : (dle k x y || dle k y x) = true := by
  rw [Bool.or_eq_true]
  exact (PySem.W.sortLe_total (PyProof.Rows.listOrd PyProof.Rows.itemOrd) false fun b => PySem.W.keyToks (k b)).total x y
theorem dle_anti {β : Type} {k : β → PyData} {x y : β} (h1 : dle k x y = true) (h2 : dle k y x = true) : PySem.W.keyToks (k x) = PySem.W.keyToks (k y) := by
  have e1 : (!(PyProof.Rows.listOrd PyProof.Rows.itemOrd).blt (PySem.W.keyToks (k y)) (PySem.W.keyToks (k x))) = true := h1
  have e2 : (!(PyProof.Rows.listOrd PyProof.Rows.itemOrd).blt (PySem.W.keyToks (k x)) (PySem.W.keyToks (k y))) = true := h2
  rw [Bool.not_eq_true'] at e1 e2
  exact (PyProof.Rows.listOrd PyProof.Rows.itemOrd).total _ _ e2 e1
/-- the places in the order of their signs -/
def ordI (cs : List Nat) : List Nat := isort (dle (skey cs)) (List.range cs.length)
theorem skey_inj {cs ds : List Nat} {i j : Nat} (h : PySem.W.keyToks (skey cs i) = PySem.W.keyToks (skey ds j)) : i = j := by
  have e1 : ∀ (es : List Nat) (n : Nat), PySem.W.keyToks (skey es n) = [.inl 1, .inr [es.getD n 0], .inl 1, .inl n, .inl 0] := fun es n => by
    simp [skey, PySem.W.keyToks, PySem.W.keyToksAll]
  rw [e1, e1] at h
  injection h with _ h
  injection h with _ h
  injection h with _ h
  injection h with h _
  injection h with h
  exact Int.ofNat.inj h
/-- the pairs at their places, put in order: as ordI says -/
theorem sort_pairs (cs : List Nat) (bs : List (V × PyData)) (f : Nat → Addr) (e : bs = (List.range cs.length).map fun i => (V.ref (f i), skey cs i)) :
    (bs.mergeSort (PySem.W.dataLe false (·.2))).map (·.1) = (ordI cs).map fun i => V.ref (f i) := by
  have h1 := List.map_mergeSort (f := fun i : Nat => (V.ref (f i), skey cs i)) (r := dle (skey cs)) (s := PySem.W.dataLe false (·.2)) (l := List.range cs.length) fun a _ b _ => rfl
  rw [e, ← h1, List.map_map, msort_isort (dle (skey cs)) (dle_trans _) (dle_total _) _ fun x _ y _ h1 h2 => skey_inj (dle_anti h1 h2)]
  rfl
example : ordI [98, 97, 36, 97] = [2, 1, 3, 0] := by decide +kernel
end L2

set_option Elab.async false
set_option linter.all false
set_option maxRecDepth 100000
set_option maxHeartbeats 4000000
/-! SetTup: len(set(t)), t a tuple of texts. -/
namespace L2
open PySem PySem.Spec PyProof.Rows
/-- the unlike ones, in the order of their first -/
def ddS (l : List Str) : List Str := l.foldl (fun acc x => if x ∈ acc then acc else acc ++ [x]) []
theorem ddS_snoc (l : List Str) (x : Str) : ddS (l ++ [x]) = if x ∈ ddS l then ddS l else ddS l ++ [x] := by
  unfold ddS
  rw [List.foldl_append]
  rfl
theorem ddS_mem (l : List Str) (y : Str) : y ∈ ddS l ↔ y ∈ l := by
  have gen : ∀ (m acc : List Str), y ∈ m.foldl (fun acc x => if x ∈ acc then acc else acc ++ [x]) acc ↔ y ∈ acc ∨ y ∈ m := by
    intro m
    induction m with
    | nil => intro acc; simp
    | cons a m ih =>
      intro acc
      rw [List.foldl_cons, ih]
      by_cases h : a ∈ acc
      · rw [if_pos h]
        constructor
        · rintro (q | q)
          · exact .inl q
          · exact .inr (List.mem_cons_of_mem _ q)
        · rintro (q | q)
          · exact .inl q
          · rcases List.mem_cons.mp q with q | q
            · exact .inl (q ▸ h)
            · exact .inr q
      · rw [if_neg h, List.mem_append, List.mem_singleton, List.mem_cons]
        constructor
        · rintro ((q | q) | q)
          · exact .inl q
          · exact .inr (.inl q)
          · exact .inr (.inr q)
        · rintro (q | q | q)
          · exact .inl (.inl q)
          · exact .inl (.inr q)
          · exact .inr q
  have := gen l []
  simpa [ddS] using this
theorem ddS_len (l : List Str) : (ddS l).length ≤ l.length := by
  have gen : ∀ (m acc : List Str), (m.foldl (fun acc x => if x ∈ acc then acc else acc ++ [x]) acc).length ≤ acc.length + m.length := by
    intro m
    induction m with
    | nil => intro acc; exact Nat.le_refl _
    | cons a m ih =>
      intro acc
      rw [List.foldl_cons]
      refine Nat.le_trans (ih _) ?_
      split
      · rw [List.length_cons]; omega
      · rw [List.length_append, List.length_singleton, List.length_cons]; omega
  have := gen l []
  simpa [ddS] using this
section
variable {pr : Program} {w : World} {B : Around} {RR : Result → Shared → Prop} {it : Addr} {fq ww : List Addr} {GG : Array GenState → Array GenState → Prop} {m : Nat} {PP : Nat → Value → Prop} {TT : Nat → Shared → Prop}
theorem loop_texts (U : WalksS pr w B.in1 it fq ww GG m PP TT) (so : Addr) (hso : so ∉ fq) (ys : List Str) (hys : ys.length = m) (few : m < 64) (hv : ∀ i v, PP i v → ∃ t, v = .str (ys.getD i Str.empty) t) :
    ∀ (left i : Nat) (s : Shared), m - i = left → i ≤ m → TT i s → s.heap.SetOf (strKind pr w) so (fun q => decide (q ∈ ys.take i)) (ddS (ys.take i)).length →
      (∀ s', Moved (so :: ww) GG s s' → s'.heap.SetOf (strKind pr w) so (fun q => decide (q ∈ ys)) (ddS ys).length → RR (.ok (.ret .none)) s') →
      codeAny (model pr w) B (.builtin "set.update.loop" ⟨[.ref so, .ref it], []⟩) RR s := by
  have now : so ∉ ww := fun h => hso (U.sub _ h)
  have sub2 : ∀ b ∈ ww, b ∈ so :: ww := fun b hb => List.mem_cons_of_mem _ hb
  intro left
  induction left with
  | zero =>
    intro i s hl hi ht hS hR
    obtain rfl : i = m := by omega
    rw [← hys, List.take_length] at hS
    refine codeAny_builtin F.entry_set_update_loop ?_
    rw [Around.under_plainId F.plain_set_update_loop _]
    refine wpAny_bind (U.done s _ _ ht fun s' mv => ?_)
    obtain ⟨o, es, ep, tb, ho, rest⟩ := hS
    exact wpAny_pure (hR s' (mv.mono sub2) ⟨o, es, ep, tb, mv.heap so _ now ho, rest⟩)
  | succ left ih =>
    intro i s hl hi ht hS hR
    have him : i < m := by omega
    refine codeAny_builtin F.entry_set_update_loop ?_
    rw [Around.under_plainId F.plain_set_update_loop _]
    refine wpAny_bind (U.item i s _ _ him ht fun v s' hP ht' mv => ?_)
    obtain ⟨t, rfl⟩ := hv i v hP
    have hS' : s'.heap.SetOf (strKind pr w) so (fun q => decide (q ∈ ys.take i)) (ddS (ys.take i)).length := by
      obtain ⟨o, es, ep, tb, ho, rest⟩ := hS
      exact ⟨o, es, ep, tb, mv.heap so _ now ho, rest⟩
    have hlen := ddS_len (ys.take i)
    rw [List.length_take] at hlen
    refine wpAny_bind (wpAny_holding ?_)
    unfold setAdd
    refine wpAny_holding ?_
    refine wpAny_bind ((strKind pr w).pyHash (k := ys.getD i Str.empty) (strKind_is _ _ _ _) ?_)
    refine wpAny_setAddHashed_of (knd := strKind pr w) (s := { s' with toks := s'.toks + 1 }) (strKind_is _ _ _ _) rfl hS' (by unfold scanBound; omega) fun h' sb hS2 => ?_
    have ey : ys.take (i + 1) = ys.take i ++ [ys.getD i Str.empty] := by
      rw [List.take_succ, List.getD_eq_getElem?_getD, List.getElem?_eq_getElem (by omega)]
      rfl
    have hS3 : h'.SetOf (strKind pr w) so (fun q => decide (q ∈ ys.take (i + 1))) (ddS (ys.take (i + 1))).length := by
      rw [ey]
      refine SetOf_congr hS2 (fun q => ?_) ?_
      · by_cases h1 : q ∈ ys.take i
        · simp [h1]
        · simp [h1]
      · rw [ddS_snoc]
        by_cases h1 : ys.getD i Str.empty ∈ ys.take i
        · rw [if_pos ((ddS_mem _ _).mpr h1), if_pos (by simpa using h1)]
        · rw [if_neg (fun z => h1 ((ddS_mem _ _).mp z)), if_neg (by simpa using h1), List.length_append]
          rfl
    refine wpAny_pure ⟨plainId_quiet F.plain_set_update_loop _, ih (i + 1) _ (by omega) him (U.frame _ s' _ _ ht' (Nat.le_succ _) fun b hb o e => ?_) hS3 fun s2 mv2 hS4 => ?_⟩
    · rw [sb.2 b (fun z : b = so => hso (by rw [← z]; exact hb))]
      exact e
    · refine hR s2 (Moved.trans U.gtrans ((mv.mono sub2).then_heap (Nat.le_succ _) fun b o hb e => ?_) mv2) hS4
      rw [sb.2 b (fun z : b = so => hb (by rw [z]; exact List.mem_cons_self))]
      exact e
end
section
variable {pr : Program} {w : World} {B : Around} {EE : Value → Shared → Prop} {s : Shared}
abbrev setOb (led : Bool) : Obj := { cls := .type "set", dict := none, data := .set #[] 0 (.fresh 0 0 led) }
theorem call_set_texts {tu : Addr} {its : Array Value} {ys : List Str} {QQ : Value → Shared → Prop} (hd : B.handled = none) (ht : s.heap.IsTuple tu its) (hy : StrsAre its.toList ys) (few : ys.length < 64)
    (fin : ∀ (h' : Heap) (tk : Nat), h'.SetOf (strKind pr w) s.heap.objs.size (fun q => decide (q ∈ ys)) (ddS ys).length → (∀ b o, b < s.heap.objs.size → s.heap.get? b = some o → h'.get? b = some o) → QQ (.ref s.heap.objs.size) { s with heap := h', toks := tk }) :
    wpAny (model pr w) B (call (.type "set") [.ref tu]) QQ EE s := by
  obtain ⟨cc, tl, mro⟩ := F.called_set.mro
  have md := F.called_set.made
  have sb := F.called_set.sub
  refine wpAny_call (codeAny_of_tree ?_)
  show wpAny _ _ (callAny (.type "set") _) _ _ _
  refine wpAny_pure ⟨Code.quiet_builtin _ (by decide +kernel), codeAny_builtin F.entry_type_call ?_⟩
  rw [Around.under_plain (weight_type_call_type "set" [.ref tu] []) rfl]
  have q1 := F.called_set.notType
  have q2 := F.called_set.canCreate
  have q3 := F.typeCall_set_1 (.ref tu)
  repeat (any_goals (first | assumption | wp_step))
  refine codeAny_mono (code_set_new_1 (.ref tu) (E := EE) (Q₁ := fun ob s1 => ∃ led : Bool, ob = .ref s.heap.objs.size ∧ s1 = { s with heap := s.heap.push (setOb led) }) fun led => ⟨led, rfl, rfl⟩) fun r s1 hr => ?_
  cases r with
  | error e => exact hr
  | ok fl =>
    cases fl with
    | ret ob =>
      obtain ⟨led, rfl, rfl⟩ := hr
      have gS : (s.heap.push (setOb led)).get? s.heap.objs.size = some (setOb led) := Heap.get?_push_size _ rfl
      have tS : Shared.TypeIs { s with heap := s.heap.push (setOb led) } (.ref s.heap.objs.size) "set" := ⟨_, gS, rfl⟩
      have i1 := F.called_set.init.lookup
      have i2 := F.called_set.init.bind (.ref s.heap.objs.size)
      repeat (any_goals (first | assumption | wp_step))
      refine codeAny_mono (codeAny_call_builtin (R := wants (fun r s2 => r = .none ∧ ∃ h' tk, s2 = { s with heap := h', toks := tk } ∧ h'.SetOf (strKind pr w) s.heap.objs.size (fun q => decide (q ∈ ys)) (ddS ys).length ∧ (∀ b o, b < s.heap.objs.size → s.heap.get? b = some o → h'.get? b = some o)) EE) F.called_set.init.plain F.entry_set_init (check_set_init_1 tS ?_)) fun r2 s2 hr2 => ?_
      · obtain ⟨ot, got, ct, nt, dt⟩ := ht
        obtain ⟨otc, otd, otx, ots⟩ := ot
        simp only at ct dt
        subst ct
        subst dt
        have got2 : (s.heap.push (setOb led)).get? tu = some { cls := .type "tuple", dict := otd, data := .seq its nt, slots := ots } := Heap.get?_push_of_some _ got
        have u1 := F.sub_tuple_set
        have u2 := F.sub_tuple_frozenset
        have u3 : (Value.type "tuple" == Value.type "dict") = false := by decide
        have tup1 : (s.heap.push (setOb led)).IsTuple tu its := ⟨_, got2, rfl, nt, rfl⟩
        unfold Builtin.«set.__init__» noKeywords Builtin.Frozenset.updateFrom
        generalize hPI : pyIter = PI
        wp_walk
        subst hPI
        refine wpAny_pyIter_tuple tup1 ?_
        refine wpAny_bind (wpAny_runValue ?_)
        have lt1 : tu < s.heap.objs.size := Heap.lt_size got
        have hd3 : B.in1.in1.in1.handled = none := by simp [hd]
        have ne1 : tu ≠ (s.heap.push (setOb led)).objs.size := by
          rw [Heap.size_push]
          exact Nat.ne_of_lt (Nat.lt_succ_of_lt lt1)
        have so1 : s.heap.objs.size ∉ [(s.heap.push (setOb led)).objs.size, tu] := by
          rw [Heap.size_push]
          simp only [List.mem_cons, List.mem_singleton, List.not_mem_nil, or_false, not_or]
          exact ⟨Nat.ne_of_lt (Nat.lt_succ_self _), Nat.ne_of_gt lt1⟩
        have len1 : ys.length = its.size := by rw [← StrsAre.len_eq hy, Array.length_toList]
        refine loop_texts ((Walks.tuple hd3 _ tu ne1 its).toS) s.heap.objs.size so1 ys len1 (by omega) (fun i v e => SS.strs_at hy i v (by rw [Array.getElem?_toList]; exact e)) (its.size - 0) 0 _ (by omega) (Nat.zero_le _)
          ⟨⟨_, Heap.get?_push_size _ rfl, rfl, rfl⟩, tup1.push _⟩ ?start ?done
        case start =>
          have g2 : ((s.heap.push (setOb led)).push { cls := .type "tuple_iterator", data := .fields #[.ref tu, .int 0 0] }).get? s.heap.objs.size = some (setOb led) := Heap.get?_push_of_some _ gS
          exact SetOf_congr ((setObjOf_fresh (knd := strKind pr w) led).setOf g2 (by unfold scanBound; omega)) (fun q => by simp) rfl
        case done =>
          intro s' mv hS
          obtain ⟨h', g', d', tk', os'⟩ := s'
          have eg : g' = s.gens := mv.gens
          have ed : d' = s.drawn := mv.drawn
          have eo : os' = s.os := mv.os
          subst eg
          subst ed
          subst eo
          refine wpAny_pure ?_
          show wpAny _ _ (ret Value.none) _ _ _
          refine wpAny_pure ⟨rfl, h', tk', rfl, hS, fun b o hb e => ?_⟩
          have n1 : b ≠ s.heap.objs.size := Nat.ne_of_lt hb
          have n2 : b ≠ (s.heap.push (setOb led)).objs.size := by
            rw [Heap.size_push]
            exact Nat.ne_of_lt (Nat.lt_succ_of_lt hb)
          exact mv.heap b o (by simp only [List.mem_cons, List.mem_singleton, List.not_mem_nil, or_false, not_or]; exact ⟨n1, n2⟩) (Heap.get?_push_of_some _ (Heap.get?_push_of_some _ e))
      · cases r2 with
        | error e => exact hr2
        | ok fl2 =>
          cases fl2 with
          | ret r =>
            obtain ⟨rfl, h', tk, rfl, hS, hk⟩ := hr2
            repeat (any_goals (first | assumption | wp_step))
            exact fin _ _ hS hk
          | _ => exact hr2.elim
    | _ => exact hr.elim
end
section
variable {X : Cx}
def tLenSetT (K : PySem.W.Frag) (ta : TE) : TE := fun σ H Q => ta σ H fun x H1 => ∃ (l : Addr) (ys : List Str), x = V.ref l ∧ SqT K H1 l (ys.map V.str) ∧ ys.length < 64 ∧ Q (.int ((ddS ys).length : Nat)) H1
theorem pe_lenSetT {a : Expr} {ta : TE} {p p2 q pos : Pos} (hc : X.calm = true) (hg : Gl X "len") (hm : X.mg "len" = none) (hg2 : Gl X "set") (hm2 : X.mg "set" = none) (ha : PE X a ta)
    (na : starEach [a] X.env = (false, eval a X.env) :: starEach [] X.env := by rfl) : PE X (.Call (.Name "len" p) [.Call (.Name "set" p2) [a] [] q] [] pos) (tLenSetT X.K ta) := by
  refine ⟨fun pins s σ H Q I h => ?_⟩
  refine Call_ (ld_blt I hg hm boot_len ?_)
  refine callWith_builtin1 (args_cons ?_ rfl) rfl rfl
  refine Call_ (ld_blt I hg2 hm2 boot_set ?_)
  refine callWith_type1 (args_cons (thn (ha.run pins s σ H _ I h) fun v s1 ⟨x, H1, I1, r1, q1⟩ => args_nil ?_) na) na rfl
  obtain ⟨l, ys, rfl, hq, few, q1⟩ := q1
  cases r1
  obtain ⟨its, r, pl, hz⟩ := I1.tuple hq
  have small := ddS_len ys
  refine call_set_texts (I1.ok.hd hc) pl (ys := ys) (by simpa using strsAre_of r) few fun h' tk hS hk => ?_
  refine args_nil ?_
  obtain ⟨o, es, ep, t, ho, hex, hd, _, _, _, hf, hn⟩ := hS
  have I2 : Inv X pins σ H1 { s1 with heap := h', toks := tk } := I1.kept fun b o e => hk b o (Heap.lt_size e) e
  exact call_len_set ho hex hd hf (by rw [hn] <;> omega) ⟨.int ((ddS ys).length : Nat), H1, I2.tok _, ⟨_, by rw [hn]⟩, q1⟩
end
end L2

set_option Elab.async false
set_option linter.all false
set_option maxRecDepth 100000
set_option maxHeartbeats 4000000
/-! SetStr: len(set(z)), z a text. -/
namespace L2
open PySem PySem.Spec PyProof.Rows
def signsS (x : Str) : List Str := x.cps.toList.map fun c => ⟨#[c]⟩
section
variable {pr : Program} {w : World} {B : Around} {RR : Result → Shared → Prop} {it : Addr} {fq ww : List Addr} {GG : Array GenState → Array GenState → Prop} {m : Nat} {PP : Nat → Value → Prop} {TT : Nat → Shared → Prop}
theorem loop_signs (U : WalksS pr w B.in1 it fq ww GG m PP TT) (so : Addr) (hso : so ∉ fq) (ys : List Str) (hys : ys.length = m) (few : m < 4000) (hv : ∀ i v, PP i v → ∃ t, v = .str (ys.getD i Str.empty) t) :
    ∀ (left i : Nat) (s : Shared), m - i = left → i ≤ m → TT i s → s.heap.SetOf (strKind pr w) so (fun q => decide (q ∈ ys.take i)) (ddS (ys.take i)).length →
      (∀ s', Moved (so :: ww) GG s s' → s'.heap.SetOf (strKind pr w) so (fun q => decide (q ∈ ys)) (ddS ys).length → RR (.ok (.ret .none)) s') →
      codeAny (model pr w) B (.builtin "set.update.loop" ⟨[.ref so, .ref it], []⟩) RR s := by
  have now : so ∉ ww := fun h => hso (U.sub _ h)
  have sub2 : ∀ b ∈ ww, b ∈ so :: ww := fun b hb => List.mem_cons_of_mem _ hb
  intro left
  induction left with
  | zero =>
    intro i s hl hi ht hS hR
    obtain rfl : i = m := by omega
    rw [← hys, List.take_length] at hS
    refine codeAny_builtin F.entry_set_update_loop ?_
    rw [Around.under_plainId F.plain_set_update_loop _]
    refine wpAny_bind (U.done s _ _ ht fun s' mv => ?_)
    obtain ⟨o, es, ep, tb, ho, rest⟩ := hS
    exact wpAny_pure (hR s' (mv.mono sub2) ⟨o, es, ep, tb, mv.heap so _ now ho, rest⟩)
  | succ left ih =>
    intro i s hl hi ht hS hR
    have him : i < m := by omega
    refine codeAny_builtin F.entry_set_update_loop ?_
    rw [Around.under_plainId F.plain_set_update_loop _]
    refine wpAny_bind (U.item i s _ _ him ht fun v s' hP ht' mv => ?_)
    obtain ⟨t, rfl⟩ := hv i v hP
    have hS' : s'.heap.SetOf (strKind pr w) so (fun q => decide (q ∈ ys.take i)) (ddS (ys.take i)).length := by
      obtain ⟨o, es, ep, tb, ho, rest⟩ := hS
      exact ⟨o, es, ep, tb, mv.heap so _ now ho, rest⟩
    have hlen := ddS_len (ys.take i)
    rw [List.length_take] at hlen
    refine wpAny_bind (wpAny_holding ?_)
    unfold setAdd
    refine wpAny_holding ?_
    refine wpAny_bind ((strKind pr w).pyHash (k := ys.getD i Str.empty) (strKind_is _ _ _ _) ?_)
    refine wpAny_setAddHashed_of (knd := strKind pr w) (s := { s' with toks := s'.toks + 1 }) (strKind_is _ _ _ _) rfl hS' (by unfold scanBound; omega) fun h' sb hS2 => ?_
    have ey : ys.take (i + 1) = ys.take i ++ [ys.getD i Str.empty] := by
      rw [List.take_succ, List.getD_eq_getElem?_getD, List.getElem?_eq_getElem (by omega)]
      rfl
    have hS3 : h'.SetOf (strKind pr w) so (fun q => decide (q ∈ ys.take (i + 1))) (ddS (ys.take (i + 1))).length := by
      rw [ey]
      refine SetOf_congr hS2 (fun q => ?_) ?_
      · by_cases h1 : q ∈ ys.take i
        · simp [h1]
        · simp [h1]
      · rw [ddS_snoc]
        by_cases h1 : ys.getD i Str.empty ∈ ys.take i
        · rw [if_pos ((ddS_mem _ _).mpr h1), if_pos (by simpa using h1)]
        · rw [if_neg (fun z => h1 ((ddS_mem _ _).mp z)), if_neg (by simpa using h1), List.length_append]
          rfl
    refine wpAny_pure ⟨plainId_quiet F.plain_set_update_loop _, ih (i + 1) _ (by omega) him (U.frame _ s' _ _ ht' (Nat.le_succ _) fun b hb o e => ?_) hS3 fun s2 mv2 hS4 => ?_⟩
    · rw [sb.2 b (fun z : b = so => hso (by rw [← z]; exact hb))]
      exact e
    · refine hR s2 (Moved.trans U.gtrans ((mv.mono sub2).then_heap (Nat.le_succ _) fun b o hb e => ?_) mv2) hS4
      rw [sb.2 b (fun z : b = so => hb (by rw [z]; exact List.mem_cons_self))]
      exact e
end
section
variable {pr : Program} {w : World} {B : Around} {EE : Value → Shared → Prop} {s : Shared}
theorem call_set_sign {x : Str} {tx : Tok} {QQ : Value → Shared → Prop} (hd : B.handled = none) (few : x.cps.size < 4000)
    (fin : ∀ (h' : Heap) (tk : Nat), h'.SetOf (strKind pr w) s.heap.objs.size (fun q => decide (q ∈ signsS x)) (ddS (signsS x)).length → (∀ b o, b < s.heap.objs.size → s.heap.get? b = some o → h'.get? b = some o) → QQ (.ref s.heap.objs.size) { s with heap := h', toks := tk }) :
    wpAny (model pr w) B (call (.type "set") [.str x tx]) QQ EE s := by
  obtain ⟨cc, tl, mro⟩ := F.called_set.mro
  have md := F.called_set.made
  have sb := F.called_set.sub
  refine wpAny_call (codeAny_of_tree ?_)
  show wpAny _ _ (callAny (.type "set") _) _ _ _
  refine wpAny_pure ⟨Code.quiet_builtin _ (by decide +kernel), codeAny_builtin F.entry_type_call ?_⟩
  rw [Around.under_plain (weight_type_call_type "set" [.str x tx] []) rfl]
  have q1 := F.called_set.notType
  have q2 := F.called_set.canCreate
  have q3 := F.typeCall_set_1 (.str x tx)
  repeat (any_goals (first | assumption | wp_step))
  refine codeAny_mono (code_set_new_1 (.str x tx) (E := EE) (Q₁ := fun ob s1 => ∃ led : Bool, ob = .ref s.heap.objs.size ∧ s1 = { s with heap := s.heap.push (setOb led) }) fun led => ⟨led, rfl, rfl⟩) fun r s1 hr => ?_
  cases r with
  | error e => exact hr
  | ok fl =>
    cases fl with
    | ret ob =>
      obtain ⟨led, rfl, rfl⟩ := hr
      have gS : (s.heap.push (setOb led)).get? s.heap.objs.size = some (setOb led) := Heap.get?_push_size _ rfl
      have tS : Shared.TypeIs { s with heap := s.heap.push (setOb led) } (.ref s.heap.objs.size) "set" := ⟨_, gS, rfl⟩
      have i1 := F.called_set.init.lookup
      have i2 := F.called_set.init.bind (.ref s.heap.objs.size)
      repeat (any_goals (first | assumption | wp_step))
      refine codeAny_mono (codeAny_call_builtin (R := wants (fun r s2 => r = .none ∧ ∃ h' tk, s2 = { s with heap := h', toks := tk } ∧ h'.SetOf (strKind pr w) s.heap.objs.size (fun q => decide (q ∈ signsS x)) (ddS (signsS x)).length ∧ (∀ b o, b < s.heap.objs.size → s.heap.get? b = some o → h'.get? b = some o)) EE) F.called_set.init.plain F.entry_set_init (check_set_init_1 tS ?_)) fun r2 s2 hr2 => ?_
      · have u1 : (Value.type "str" == Value.type "dict") = false := by decide
        have u2 := F.sub_str_set
        have u3 := F.sub_str_frozenset
        unfold Builtin.«set.__init__» noKeywords Builtin.Frozenset.updateFrom
        generalize hPI : pyIter = PI
        wp_walk
        subst hPI
        refine wpAny_pyIter_str fun o St W st0 => ?_
        refine wpAny_bind (wpAny_runValue ?_)
        have hd3 : B.in1.in1.in1.handled = none := by simp [hd]
        have so1 : s.heap.objs.size ∉ [(s.heap.push (setOb led)).objs.size] := by
          rw [Heap.size_push]
          simp only [List.mem_cons, List.mem_singleton, List.not_mem_nil, or_false, not_or]
          exact Nat.ne_of_lt (Nat.lt_succ_self _)
        have len1 : (signsS x).length = x.cps.size := by rw [signsS, List.length_map, Array.length_toList]
        refine loop_signs ((W _ hd3).toS) s.heap.objs.size so1 (signsS x) len1 (by omega) (fun i v ⟨c, u, e1, e2⟩ => ⟨u, by rw [e2, signsS, List.getD_eq_getElem?_getD, List.getElem?_map, Array.getElem?_toList, e1]; rfl⟩) (x.cps.size - 0) 0 _ (by omega) (Nat.zero_le _)
          st0 ?start ?done
        case start =>
          have g2 : ((s.heap.push (setOb led)).push o).get? s.heap.objs.size = some (setOb led) := Heap.get?_push_of_some _ gS
          exact SetOf_congr ((setObjOf_fresh (knd := strKind pr w) led).setOf g2 (by unfold scanBound; omega)) (fun q => by simp) rfl
        case done =>
          intro s' mv hS
          obtain ⟨h', g', d', tk', os'⟩ := s'
          have eg : g' = s.gens := mv.gens
          have ed : d' = s.drawn := mv.drawn
          have eo : os' = s.os := mv.os
          subst eg
          subst ed
          subst eo
          refine wpAny_pure ?_
          show wpAny _ _ (ret Value.none) _ _ _
          refine wpAny_pure ⟨rfl, h', tk', rfl, hS, fun b o hb e => ?_⟩
          have n1 : b ≠ s.heap.objs.size := Nat.ne_of_lt hb
          have n2 : b ≠ (s.heap.push (setOb led)).objs.size := by
            rw [Heap.size_push]
            exact Nat.ne_of_lt (Nat.lt_succ_of_lt hb)
          exact mv.heap b o (by simp only [List.mem_cons, List.mem_singleton, List.not_mem_nil, or_false, not_or]; exact ⟨n1, n2⟩) (Heap.get?_push_of_some _ (Heap.get?_push_of_some _ e))
      · cases r2 with
        | error e => exact hr2
        | ok fl2 =>
          cases fl2 with
          | ret r =>
            obtain ⟨rfl, h', tk, rfl, hS, hk⟩ := hr2
            repeat (any_goals (first | assumption | wp_step))
            exact fin _ _ hS hk
          | _ => exact hr2.elim
    | _ => exact hr.elim
end
section
variable {X : Cx}
def tLenSetS (ta : TE) : TE := fun σ H Q => ta σ H fun x H1 => ∃ z : Str, x = V.str z ∧ z.cps.size < 4000 ∧ Q (.int ((ddS (signsS z)).length : Nat)) H1
theorem pe_lenSetS {a : Expr} {ta : TE} {p p2 q pos : Pos} (hc : X.calm = true) (hg : Gl X "len") (hm : X.mg "len" = none) (hg2 : Gl X "set") (hm2 : X.mg "set" = none) (ha : PE X a ta)
    (na : starEach [a] X.env = (false, eval a X.env) :: starEach [] X.env := by rfl) : PE X (.Call (.Name "len" p) [.Call (.Name "set" p2) [a] [] q] [] pos) (tLenSetS ta) := by
  refine ⟨fun pins s σ H Q I h => ?_⟩
  refine Call_ (ld_blt I hg hm boot_len ?_)
  refine callWith_builtin1 (args_cons ?_ rfl) rfl rfl
  refine Call_ (ld_blt I hg2 hm2 boot_set ?_)
  refine callWith_type1 (args_cons (thn (ha.run pins s σ H _ I h) fun v s1 ⟨x, H1, I1, r1, q1⟩ => args_nil ?_) na) na rfl
  obtain ⟨z, rfl, few, q1⟩ := q1
  obtain ⟨tk0, rfl⟩ := r1
  have small := ddS_len (signsS z)
  have sl : (signsS z).length = z.cps.size := by rw [signsS, List.length_map, Array.length_toList]
  refine call_set_sign (I1.ok.hd hc) few fun h' tk hS hk => ?_
  refine args_nil ?_
  obtain ⟨o, es, ep, t, ho, hex, hd, _, _, _, hf, hn⟩ := hS
  have I2 : Inv X pins σ H1 { s1 with heap := h', toks := tk } := I1.kept fun b o e => hk b o (Heap.lt_size e) e
  exact call_len_set ho hex hd hf (by rw [hn]; omega) ⟨.int ((ddS (signsS z)).length : Nat), H1, I2.tok _, ⟨_, by rw [hn]⟩, q1⟩
end
end L2

set_option Elab.async false
set_option linter.all false
set_option maxRecDepth 100000
set_option maxHeartbeats 4000000
/-! StrKit: z * k and z[::-1] of texts. -/
namespace L2
open PySem PySem.Spec PyProof.Rows
/-- a text so many times -/
def repS (z : Str) (n : Nat) : Str := ⟨(List.replicate n z.cps.toList).flatten.toArray⟩
theorem foldl_app {α : Type} (xs : List (Array α)) (acc : Array α) : (xs.foldl (· ++ ·) acc).toList = acc.toList ++ (xs.map Array.toList).flatten := by
  induction xs generalizing acc with
  | nil => simp
  | cons x xs ih => rw [List.foldl_cons, ih, Array.toList_append, List.map_cons, List.flatten_cons, List.append_assoc]
theorem repS_list (z : Str) (n : Nat) : (repS z n).cps.toList = (List.replicate n z.cps.toList).flatten := rfl
theorem repS_len (z : Str) (n : Nat) : (repS z n).cps.toList.length = n * z.cps.toList.length := by
  rw [repS_list, List.length_flatten, List.map_replicate, List.sum_replicate_nat]
theorem mul_repS (z : Str) (k : Int) : Txt.mul z k = repS z k.toNat := by
  unfold Txt.mul repS
  by_cases h1 : k < 1
  · rw [if_pos h1, show k.toNat = 0 by omega]
    rfl
  · rw [if_neg h1]
    by_cases h2 : (k == 1 || z.length == 0) = true
    · rw [if_pos h2]
      rcases Bool.or_eq_true_iff.mp h2 with h | h
      · have : k = 1 := by simpa using h
        subst this
        obtain ⟨cs⟩ := z
        simp
      · have : z.length = 0 := by simpa using h
        have e : z.cps = #[] := Array.eq_empty_of_size_eq_zero this
        obtain ⟨cs⟩ := z
        simp only at e
        subst e
        simp
    · rw [if_neg h2]
      congr 1
      apply Array.ext'
      rw [foldl_app, List.map_replicate]
      simp
section
variable {X : Cx}
theorem op_mulS : OpR X (binaryOp .Mult) (fun x y H Q => ∃ z k, x = .str z ∧ y = .int k ∧ -(2 ^ 62) ≤ k ∧ k ≤ 2 ^ 24 ∧ z.cps.toList.length * k.toNat ≤ 2 ^ 24 ∧ Q (.str (repS z k.toNat)) H) := by
  intro pins s σ H x y v u Q I rx ry h
  obtain ⟨z, k, rfl, rfl, h1, h2, h3, q⟩ := h
  obtain ⟨t, rfl⟩ := rx
  obtain ⟨t', rfl⟩ := ry
  have hz : z.length = z.cps.toList.length := Array.length_toList.symm
  refine SB.mul ⟨?_, fun h4 h5 => ?_, fun h4 h5 => ?_⟩ fun t' tk => ⟨.str (repS z k.toNat), H, I.tok _, ⟨t', by rw [mul_repS]⟩, q⟩
  · have : ¬ k < -(2 ^ 63 : Int) := by omega
    have h : ¬ k ≥ (2 ^ 63 : Int) := by omega
    rw [decide_eq_false this, decide_eq_false h]
    rfl
  · have hk : 0 < k := by omega
    have : ((z.length : Nat) : Int) * k ≤ 2 ^ 24 := by
      rw [hz]
      have := Int.ofNat_le.mpr h3
      rw [Int.natCast_mul, Int.toNat_of_nonneg (by omega)] at this
      exact this
    have := Int.le_ediv_of_mul_le hk (Int.le_trans this (by decide : (2 : Int) ^ 24 ≤ 2 ^ 63 - 1))
    omega
  · unfold Builtin.Str.tooLong
    have : z.length * k.toNat ≤ 2 ^ 24 := by rw [hz]; exact h3
    simp only [sizeLine_eq]
    have h : ¬ z.length * k.toNat > 2 ^ 24 := by omega
    simp [h]
/-- z[::-1] -/
def revS (z : Str) : Str := ⟨z.cps.toList.reverse.toArray⟩
theorem revS_list (z : Str) : (revS z).cps.toList = z.cps.toList.reverse := rfl
def tRevS (te : TE) : TE := fun σ H Q => te σ H fun x H1 => ∃ z, x = .str z ∧ z.length ≤ sizeLine ∧ Q (.str (revS z)) H1
theorem pe_revS {e : Expr} {te : TE} {k : Nat} {p1 p2 p3 pos : Pos} (he : PE X e te) : PE X (.Subscript e (.Slice none none (some (.UnaryOp .USub (.Constant (.int 1) k p1) p2)) p3) pos) (tRevS te) := by
  refine ⟨fun pins s σ H Q I h => ?_⟩
  refine Subscript_ (thn (he.run pins s σ H _ I h) fun v s1 ⟨x, H1, I1, r1, q1⟩ => ?_)
  obtain ⟨z, ex, hz, q⟩ := q1
  subst ex
  obtain ⟨tz, rfl⟩ := r1
  have hst : PO X (some (.UnaryOp .USub (.Constant (.int 1) k p1) p2)) (tPart (tUn (rU fun i => .int (-i)) (tC (.int 1)))) := po_some (pe_un un_neg pe_int)
  refine wpAny_Slice (thn (po_none.run pins s1 σ H1 (fun o H2 => o = none ∧ H2 = H1) I1 ⟨rfl, rfl⟩) fun vl s2 ⟨l, H2, I2, pl, el, e2⟩ => ?_)
  subst el e2
  refine thn (po_none.run pins s2 σ H2 (fun o H3 => o = none ∧ H3 = H2) I2 ⟨rfl, rfl⟩) fun vu s3 ⟨u, H3, I3, pu, eu, e3⟩ => ?_
  subst eu e3
  refine thn (hst.run pins s3 σ H3 (fun o H4 => o = some (-1) ∧ H4 = H3) I3 ⟨1, rfl, -1, rfl, rfl, rfl⟩) fun vs s4 ⟨o, H4, I4, ps, eo, e4⟩ => ?_
  subst eo e4
  have I5 : Inv X pins σ H4 { s4 with heap := s4.heap.push { cls := .type "slice", data := .fields #[vl, vu, vs] } } := I4.kept (t' := s4.toks) fun b ob q => Heap.get?_push_of_some _ q
  show wpAny (model X.prog X.w) X.A (subscriptTail e (.Slice none none (some (.UnaryOp .USub (.Constant (.int 1) k p1) p2)) p3) (.str z tz) (.ref s4.heap.objs.size)) (EP X pins σ Q) X.xe { s4 with heap := s4.heap.push { cls := .type "slice", data := .fields #[vl, vu, vs] } }
  obtain ⟨l, rfl, e1⟩ := IsPart.raw pl
  obtain ⟨u, rfl, e2⟩ := IsPart.raw pu
  obtain ⟨st, rfl, e3⟩ := IsPart.raw ps
  have el : l = none := by cases l <;> simp_all
  have eu : u = none := by cases u <;> simp_all
  subst el eu
  refine tail_any (ops := [.str z tz, .ref s4.heap.objs.size]) (typeIs_str _ _ _) (F.slot_str_getitem.lookup) ?_ (by with_unfolding_all rfl)
  refine wpAny_getItem_str_slice (l := none) (u := none) (st := st) ⟨_, Heap.get?_push_size _ rfl, rfl, rfl⟩ (by rw [e3]; rfl) ?_
  have hp : ((Builtin.Str.strSliceIndices none none (-1) z.length).filterMap (z.cps[·]?)) = z.cps.toList.reverse := by
    unfold Builtin.Str.strSliceIndices
    show ((PySem.sliceRange ((z.length : Int) - 1) (-1) (-1)).filterMap (z.cps[·]?)) = _
    rw [PySem.W.krv_sliceRange, PySem.W.krv_range, List.filterMap_reverse]
    exact congrArg List.reverse (PySem.W.krv_all z.cps)
  have hl : (revS z).length ≤ sizeLine := by
    have : (revS z).length = z.length := by
      show (z.cps.toList.reverse.toArray).size = z.cps.size
      rw [List.size_toArray, List.length_reverse, Array.length_toList]
    omega
  unfold sliceMade slicePicked
  rw [e3]
  show Made.post (if ((-1 : Int) == 1 && _) = true then _ else Made.str ⟨((Builtin.Str.strSliceIndices none none (-1) z.length).filterMap (z.cps[·]?)).toArray⟩) _ _
  rw [hp, if_neg (by simp)]
  exact ⟨hl, .str (revS z), H4, I5.tok _, ⟨_, rfl⟩, q⟩
end
end L2

set_option Elab.async false
set_option linter.all false
set_option maxRecDepth 100000
set_option maxHeartbeats 4000000
/-! LcKit: comprehensions whose items are known one by one. -/
namespace L2
open PySem
/-- all but the lists stay -/
def KeepL (H H' : Hp) : Prop := ∀ b o, H b = some o → (∀ l, o ≠ .lst l) → H' b = some o
theorem KeepL.of {H H' : Hp} (s : ∀ b o, H b = some o → H' b = some o) : KeepL H H' := fun b o e _ => s b o e
theorem KeepL.trans {H H1 H2 : Hp} (s : KeepL H H1) (t : KeepL H1 H2) : KeepL H H2 := fun b o e n => t b o (s b o e n) n
inductive All2 {α β : Type} (R : α → β → Prop) : List α → List β → Prop
  | nil : All2 R [] []
  | cons {x : α} {z : β} {xs : List α} {zs : List β} (h : R x z) (t : All2 R xs zs) : All2 R (x :: xs) (z :: zs)
section
variable {α β : Type} {R : α → β → Prop}
theorem All2.length {xs : List α} {zs : List β} (h : All2 R xs zs) : xs.length = zs.length := by
  induction h with
  | nil => rfl
  | cons _ _ ih => rw [List.length_cons, List.length_cons, ih]
theorem All2.get {xs : List α} {zs : List β} (h : All2 R xs zs) {i : Nat} {x : α} (e : xs[i]? = some x) : ∃ z, zs[i]? = some z ∧ R x z := by
  induction h generalizing i with
  | nil => cases e
  | cons h t ih =>
    cases i with
    | zero => cases e; exact ⟨_, rfl, h⟩
    | succ i => exact ih e
theorem All2.getR {xs : List α} {zs : List β} (h : All2 R xs zs) {i : Nat} {z : β} (e : zs[i]? = some z) : ∃ x, xs[i]? = some x ∧ R x z := by
  induction h generalizing i with
  | nil => cases e
  | cons h t ih =>
    cases i with
    | zero => cases e; exact ⟨_, rfl, h⟩
    | succ i => exact ih e
theorem All2.append {xs ys : List α} {zs ws : List β} (h : All2 R xs zs) (g : All2 R ys ws) : All2 R (xs ++ ys) (zs ++ ws) := by
  induction h with
  | nil => exact g
  | cons h t ih => exact .cons h ih
theorem All2.mono {S : α → β → Prop} {xs : List α} {zs : List β} (h : All2 R xs zs) (m : ∀ x z, z ∈ zs → R x z → S x z) : All2 S xs zs := by
  induction h with
  | nil => exact .nil
  | cons h t ih => exact .cons (m _ _ List.mem_cons_self h) (ih fun x z hz r => m x z (List.mem_cons_of_mem _ hz) r)
theorem All2.drop {xs : List α} {zs : List β} (h : All2 R xs zs) : ∀ k : Nat, All2 R (xs.drop k) (zs.drop k)
  | 0 => h
  | k + 1 => by
    cases h with
    | nil => exact .nil
    | cons h t => exact t.drop k
theorem All2.take {xs : List α} {zs : List β} (h : All2 R xs zs) : ∀ k : Nat, All2 R (xs.take k) (zs.take k)
  | 0 => .nil
  | k + 1 => by
    cases h with
    | nil => exact .nil
    | cons h t => exact .cons h (t.take k)
theorem All2.map {γ : Type} {f : γ → α} {g : γ → β} : ∀ {cs : List γ}, (∀ c ∈ cs, R (f c) (g c)) → All2 R (cs.map f) (cs.map g)
  | [], _ => .nil
  | c :: cs, h => .cons (h c List.mem_cons_self) (All2.map fun d hd => h d (List.mem_cons_of_mem _ hd))
theorem All2.mem {xs : List α} {zs : List β} (h : All2 R xs zs) {x : α} (e : x ∈ xs) : ∃ z, z ∈ zs ∧ R x z := by
  obtain ⟨i, hi⟩ := List.mem_iff_getElem?.mp e
  obtain ⟨z, hz, r⟩ := h.get hi
  exact ⟨z, List.mem_of_getElem? hz, r⟩
/-- values that are told by what they are -/
theorem All2.eq_map {f : β → α} {xs : List α} {zs : List β} (h : All2 (fun x z => x = f z) xs zs) : xs = zs.map f := by
  induction h with
  | nil => rfl
  | cons h t ih => rw [List.map_cons, h, ih]
theorem All2.of_map {f : β → α} : ∀ zs : List β, All2 (fun x z => x = f z) (zs.map f) zs
  | [] => .nil
  | z :: zs => .cons rfl (All2.of_map zs)
end
theorem filter_take_succ {β γ : Type} {zs : List β} {i : Nat} {z : β} (e : zs[i]? = some z) (t : β → Bool) (f : β → γ) : ((zs.take (i + 1)).filter t).map f = ((zs.take i).filter t).map f ++ (if t z = true then [f z] else []) := by
  rw [List.take_succ, e, List.filter_append, List.map_append]
  congr 1
  by_cases h : t z = true
  · rw [if_pos h]
    simp [h]
  · rw [if_neg h]
    simp [h]
section
variable {K : PySem.W.Frag} {g : TG} {tt : TT} {te : TE} {vs : List Nat} {σ : St} {H1 : Hp} {D : Addr} {Qd : Hp → Prop} {α β : Type} {zs : List α} {R : Hp → V → α → Prop} {R' : Hp → V → β → Prop}
theorem sqT_same {H H' : Hp} {a : Addr} {xs : List V} (e : ∀ b o, H b = some o → H' b = some o) (h : SqT K H a xs) : SqT K H' a xs :=
  h.elim (fun h => .inl (h.elim (fun h => .inl (e _ _ h)) fun ⟨o, h⟩ => .inr ⟨o, e _ _ h⟩)) fun h => .inr h
theorem sqL_same {H H' : Hp} {a : Addr} {xs : List V} (e : ∀ b o, H b = some o → H' b = some o) (h : SqL K H a xs) : SqL K H' a xs :=
  h.elim (fun h => .inl (h.elim (fun h => .inl (e _ _ h)) fun ⟨o, h⟩ => .inr ⟨o, e _ _ h⟩)) fun h => .inr h
/-- one turn's wish -/
def LcP (H1 : Hp) (D : Addr) (R' : Hp → V → β → Prop) (zs : List α) (t : α → Bool) (f : α → β) (i : Nat) (H : Hp) : Prop := (∀ b o, H1 b = some o → H b = some o) ∧ ∃ ys, H D = some (.lst ys) ∧ All2 (R' H) ys (((zs.take i).filter t).map f)
theorem lcP_put {t : α → Bool} {f : α → β} {i : Nat} {z : α} {H H4 : Hp} {y : V} (hD : H1 D = none) (mR' : ∀ H H' x z, KeepL H H' → R' H x z → R' H' x z) (hz : zs.length < sizeLine) (e : zs[i]? = some z) (p : LcP H1 D R' zs t f i H) (ht : t z = true)
    (s : ∀ b o, H b = some o → H4 b = some o) (r : R' H4 y (f z)) : ∃ acc, H4 D = some (.lst acc) ∧ acc.length < sizeLine ∧ LcP H1 D R' zs t f (i + 1) (upd H4 D (.lst (acc ++ [y]))) := by
  obtain ⟨s1, ys, hd, a⟩ := p
  have kl : KeepL H4 (upd H4 D (.lst (ys ++ [y]))) := fun b o e n => by
    rw [upd_ne (fun q => by subst q; rw [s _ _ hd] at e; cases e; exact n _ rfl)]
    exact e
  have hlen := a.length
  rw [List.length_map] at hlen
  have h1 : ((zs.take i).filter t).length ≤ zs.length := Nat.le_trans (List.length_filter_le _ _) (by rw [List.length_take]; omega)
  refine ⟨ys, s _ _ hd, by omega, fun b o e => ?_, _, upd_same, ?_⟩
  · rw [upd_ne (ne_of_none e hD)]
    exact s _ _ (s1 _ _ e)
  · rw [filter_take_succ e, if_pos ht]
    exact (a.mono fun x z _ r => mR' _ _ _ _ kl (mR' _ _ _ _ (.of s) r)).append (.cons (mR' _ _ _ _ kl r) .nil)
theorem lcP_skip {t : α → Bool} {f : α → β} {i : Nat} {z : α} {H H3 : Hp} (mR' : ∀ H H' x z, KeepL H H' → R' H x z → R' H' x z) (e : zs[i]? = some z) (p : LcP H1 D R' zs t f i H) (ht : t z = false)
    (s : ∀ b o, H b = some o → H3 b = some o) : LcP H1 D R' zs t f (i + 1) H3 := by
  obtain ⟨s1, ys, hd, a⟩ := p
  refine ⟨fun b o e => s _ _ (s1 _ _ e), ys, s _ _ hd, ?_⟩
  rw [filter_take_succ e, if_neg (by rw [ht]; simp), List.append_nil]
  exact a.mono fun x z _ r => mR' _ _ _ _ (.of s) r
theorem lcP_zero {t : α → Bool} {f : α → β} (hD : H1 D = none) : LcP H1 D R' zs t f 0 (upd H1 D (.lst [])) := ⟨fun b o e => by rw [upd_ne (ne_of_none e hD)]; exact e, [], upd_same, .nil⟩
/-- over a list whose items are known -/
theorem lcM_list {a : Addr} {xs : List V} (t : α → Bool) (f : α → β) (hD : H1 D = none) (hS : SqL K H1 a xs) (hx : All2 (R H1) xs zs) (mR : ∀ H H' x z, (∀ b o, H b = some o → H' b = some o) → R H x z → R H' x z) (mR' : ∀ H H' x z, KeepL H H' → R' H x z → R' H' x z) (hz : zs.length < sizeLine)
    (step : ∀ (i : Nat) (x : V) (z : α) (H : Hp) (C : V → Hp → Prop) (C0 : Hp → Prop), zs[i]? = some z → (∀ b o, H1 b = some o → H b = some o) → R H x z →
      (t z = true → ∀ y H4, (∀ b o, H b = some o → H4 b = some o) → R' H4 y (f z) → C y H4) → (t z = false → ∀ H3, (∀ b o, H b = some o → H3 b = some o) → C0 H3) →
      g x (wipe σ vs) H fun σ2 H2 => wipe σ2 vs = wipe σ vs ∧ tt σ2 H2 fun b H3 => if b = true then te σ2 H3 C else C0 H3)
    (fin : ∀ ys H, (∀ b o, H1 b = some o → H b = some o) → H D = some (.lst ys) → All2 (R' H) ys ((zs.filter t).map f) → Qd H) :
    ∃ W : Nat → Nat → Hp → Prop, (∃ m, W 0 m (upd H1 D (.lst []))) ∧ ∀ i m H, W i m H →
      ((Itl K a).stop i H ∧ Qd H) ∨ ((Itl K a).go i H ∧ ∃ Nx : Hp → Prop, (∀ H', Nx H' → ∃ m', m' < m ∧ W (i + 1) m' H') ∧ ∀ x H', (Itl K a).yld i H x H' → g x (wipe σ vs) H' fun σ2 H2 => wipe σ2 vs = wipe σ vs ∧ tt σ2 H2 fun b H3 =>
        if b = true then te σ2 H3 fun y H4 => ∃ acc, H4 D = some (.lst acc) ∧ acc.length < sizeLine ∧ Nx (upd H4 D (.lst (acc ++ [y]))) else Nx H3) := by
  have el := hx.length
  refine lc_list (xs := xs) (LcP H1 D R' zs t f) (lcP_zero hD) (fun i H _ p => sqL_same p.1 hS) (fun i x H hi p => ?_) (fun H p => ?_)
  · obtain ⟨z, e, r⟩ := hx.get hi
    exact step i x z H _ _ e p.1 (mR _ _ _ _ p.1 r) (fun ht y H4 s r => lcP_put hD mR' hz e p ht s r) (fun ht H3 s => lcP_skip mR' e p ht s)
  · obtain ⟨s1, ys, hd, a2⟩ := p
    rw [el, List.take_length] at a2
    exact fin ys H s1 hd a2
/-- over a tuple -/
theorem lcM_tup {a : Addr} {xs : List V} (t : α → Bool) (f : α → β) (hD : H1 D = none) (hS : SqT K H1 a xs) (hx : All2 (R H1) xs zs) (mR : ∀ H H' x z, (∀ b o, H b = some o → H' b = some o) → R H x z → R H' x z) (mR' : ∀ H H' x z, KeepL H H' → R' H x z → R' H' x z) (hz : zs.length < sizeLine)
    (step : ∀ (i : Nat) (x : V) (z : α) (H : Hp) (C : V → Hp → Prop) (C0 : Hp → Prop), zs[i]? = some z → (∀ b o, H1 b = some o → H b = some o) → R H x z →
      (t z = true → ∀ y H4, (∀ b o, H b = some o → H4 b = some o) → R' H4 y (f z) → C y H4) → (t z = false → ∀ H3, (∀ b o, H b = some o → H3 b = some o) → C0 H3) →
      g x (wipe σ vs) H fun σ2 H2 => wipe σ2 vs = wipe σ vs ∧ tt σ2 H2 fun b H3 => if b = true then te σ2 H3 C else C0 H3)
    (fin : ∀ ys H, (∀ b o, H1 b = some o → H b = some o) → H D = some (.lst ys) → All2 (R' H) ys ((zs.filter t).map f) → Qd H) :
    ∃ W : Nat → Nat → Hp → Prop, (∃ m, W 0 m (upd H1 D (.lst []))) ∧ ∀ i m H, W i m H →
      ((Itt K a).stop i H ∧ Qd H) ∨ ((Itt K a).go i H ∧ ∃ Nx : Hp → Prop, (∀ H', Nx H' → ∃ m', m' < m ∧ W (i + 1) m' H') ∧ ∀ x H', (Itt K a).yld i H x H' → g x (wipe σ vs) H' fun σ2 H2 => wipe σ2 vs = wipe σ vs ∧ tt σ2 H2 fun b H3 =>
        if b = true then te σ2 H3 fun y H4 => ∃ acc, H4 D = some (.lst acc) ∧ acc.length < sizeLine ∧ Nx (upd H4 D (.lst (acc ++ [y]))) else Nx H3) := by
  have el := hx.length
  refine lc_tup (xs := xs) (LcP H1 D R' zs t f) (lcP_zero hD) (fun i H _ p => sqT_same p.1 hS) (fun i x H hi p => ?_) (fun H p => ?_)
  · obtain ⟨z, e, r⟩ := hx.get hi
    exact step i x z H _ _ e p.1 (mR _ _ _ _ p.1 r) (fun ht y H4 s r => lcP_put hD mR' hz e p ht s r) (fun ht H3 s => lcP_skip mR' e p ht s)
  · obtain ⟨s1, ys, hd, a2⟩ := p
    rw [el, List.take_length] at a2
    exact fin ys H s1 hd a2
/-- over a range -/
theorem lcM_range {lo : Int} {n : Nat} (t : Nat → Bool) (f : Nat → β) (hD : H1 D = none) (mR' : ∀ H H' x z, KeepL H H' → R' H x z → R' H' x z) (hz : n < sizeLine)
    (step : ∀ (i : Nat) (H : Hp) (C : V → Hp → Prop) (C0 : Hp → Prop), i < n → (∀ b o, H1 b = some o → H b = some o) →
      (t i = true → ∀ y H4, (∀ b o, H b = some o → H4 b = some o) → R' H4 y (f i) → C y H4) → (t i = false → ∀ H3, (∀ b o, H b = some o → H3 b = some o) → C0 H3) →
      g (.int (lo + i)) (wipe σ vs) H fun σ2 H2 => wipe σ2 vs = wipe σ vs ∧ tt σ2 H2 fun b H3 => if b = true then te σ2 H3 C else C0 H3)
    (fin : ∀ ys H, (∀ b o, H1 b = some o → H b = some o) → H D = some (.lst ys) → All2 (R' H) ys (((List.range n).filter t).map f) → Qd H) :
    ∃ W : Nat → Nat → Hp → Prop, (∃ m, W 0 m (upd H1 D (.lst []))) ∧ ∀ i m H, W i m H →
      ((Itr lo n).stop i H ∧ Qd H) ∨ ((Itr lo n).go i H ∧ ∃ Nx : Hp → Prop, (∀ H', Nx H' → ∃ m', m' < m ∧ W (i + 1) m' H') ∧ ∀ x H', (Itr lo n).yld i H x H' → g x (wipe σ vs) H' fun σ2 H2 => wipe σ2 vs = wipe σ vs ∧ tt σ2 H2 fun b H3 =>
        if b = true then te σ2 H3 fun y H4 => ∃ acc, H4 D = some (.lst acc) ∧ acc.length < sizeLine ∧ Nx (upd H4 D (.lst (acc ++ [y]))) else Nx H3) := by
  refine lc_range (LcP H1 D R' (List.range n) t f) (lcP_zero hD) (fun i H hi p => ?_) (fun H p => ?_)
  · have e : (List.range n)[i]? = some i := List.getElem?_range hi
    exact step i H _ _ hi p.1 (fun ht y H4 s r => lcP_put hD mR' (by rw [List.length_range]; exact hz) e p ht s r) (fun ht H3 s => lcP_skip mR' e p ht s)
  · obtain ⟨s1, ys, hd, a2⟩ := p
    have e2 : (List.range n).take n = List.range n := List.take_of_length_le (by rw [List.length_range]; exact Nat.le_refl _)
    rw [e2] at a2
    exact fin ys H s1 hd a2
end
end L2

set_option Elab.async false
set_option linter.all false
set_option maxRecDepth 100000
set_option maxHeartbeats 4000000
namespace T88
open PySem PySem.Spec PyProof.Rows L2 EK
def strL (l : List Nat) : Str := ⟨l.toArray⟩
theorem strL_list (l : List Nat) : (strL l).cps.toList = l := by simp [strL]
theorem strL_len (l : List Nat) : (strL l).length = l.length := by show l.toArray.size = _; simp
theorem strL_of (z : Str) : z = strL z.cps.toList := by
  cases z
  simp [strL]
theorem strL_add (a b : List Nat) : strL a ++ strL b = strL (a ++ b) := by
  show (⟨a.toArray ++ b.toArray⟩ : Str) = ⟨(a ++ b).toArray⟩
  simp
theorem strL_inj {a b : List Nat} : strL a = strL b ↔ a = b := by
  constructor
  · intro h
    have := congrArg (fun z : Str => z.cps.toList) h
    simpa [strL] using this
  · rintro rfl
    rfl
theorem cutL (l : List Nat) (k : Nat) : cutS (strL l) (some (k : Int)) none = strL (l.drop k) := by
  rw [strL_of (cutS _ _ _)]
  congr 1
  show (((strL l).cps.toList.drop (HT.sIx (strL l).length 0 (some (k : Int)))).take (HT.sIx (strL l).length (strL l).length none - HT.sIx (strL l).length 0 (some (k : Int)))).toArray.toList = _
  rw [HT.sIx_none, HT.sIx_nat, strL_list, strL_len]
  simp only [List.toList_toArray]
  rw [List.take_of_length_le (by rw [List.length_drop]; omega), Nat.min_def]
  split
  · rfl
  · rw [List.drop_of_length_le (Nat.le_refl _), List.drop_of_length_le (by omega)]
theorem takeL (l : List Nat) (k : Nat) : cutS (strL l) none (some (k : Int)) = strL (l.take k) := by
  rw [strL_of (cutS _ _ _)]
  congr 1
  show (((strL l).cps.toList.drop (HT.sIx (strL l).length 0 none)).take (HT.sIx (strL l).length (strL l).length (some (k : Int)) - HT.sIx (strL l).length 0 none)).toArray.toList = _
  rw [HT.sIx_none, HT.sIx_nat, strL_list, strL_len]
  simp only [List.toList_toArray, List.drop_zero, Nat.sub_zero]
  rw [Nat.min_def]
  split
  · rfl
  · rw [List.take_of_length_le (Nat.le_refl _), List.take_of_length_le (by omega)]
/-- a turn of a word and the sign ahead of it, as data -/
def tX (z : List Nat × Nat) : PyData := .tuple [.str (strL z.1), .str (strL [z.2])]
def aheadX (w : List Nat) (i : Nat) : Nat := if i = 0 then w.getD (w.length - 1) 0 else w.getD (i - 1) 0
def turnX (w : List Nat) (i : Nat) : List Nat × Nat := (w.drop i ++ w.take i, aheadX w i)
def rotX (w : List Nat) : List (List Nat × Nat) := (List.range w.length).map (turnX w)
def rowX (w : List Nat) : List Nat := (isort (dle tX) (rotX w)).map (·.2)
/-- 1 and the places behind the first whose sign is another than that ahead of it -/
def runsX (r : List Nat) : Nat := 1 + ((List.range (r.length - 1)).filter fun i => r.getD (i + 1) 0 != r.getD i 0).length
def innerX (w : List Nat) : List Nat := ((w ++ w).drop 1).take (2 * w.length - 2)
def primX (w : List Nat) : Bool := (Builtin.Str.occurrences (strL (innerX w)) (strL w) 0 (strL (innerX w)).length 1).isEmpty
abbrev Ent := List Nat × Nat × Nat
def tA (z : Ent) : Bool := decide (0 < z.2.1)
def tB (z : Ent) : Bool := decide (0 < z.2.2)
def fA (z : Ent) : Ent := (z.1 ++ [97], z.2.1 - 1, z.2.2)
def fB (z : Ent) : Ent := (z.1 ++ [98], z.2.1, z.2.2 - 1)
def stepX (l : List Ent) : List Ent := (l.filter tA).map fA ++ (l.filter tB).map fB
def ordX (p q : Nat) : Nat → List Ent
  | 0 => [([], p, q)]
  | n + 1 => stepX (ordX p q n)
def wordsX (p q : Nat) : List (List Nat) := (ordX p q (p + q)).map (·.1)
def betterX (b : Option Nat) (w : List Nat) : Option Nat := if primX w then (match b with
  | none => some (runsX (rowX w))
  | some m => if runsX (rowX w) < m then some (runsX (rowX w)) else some m) else b
def dueX (p q : Nat) : Option Nat := (wordsX p q).foldl betterX none
theorem ord_len (p q : Nat) : ∀ n, (ordX p q n).length ≤ 2 ^ n
  | 0 => by simp [ordX]
  | n + 1 => by
    have h := ord_len p q n
    have h1 := List.length_filter_le tA (ordX p q n)
    have h2 := List.length_filter_le tB (ordX p q n)
    show (stepX (ordX p q n)).length ≤ _
    unfold stepX
    rw [List.length_append, List.length_map, List.length_map, Nat.pow_succ]
    omega
theorem ord_word (p q : Nat) : ∀ n, ∀ z ∈ ordX p q n, z.1.length = n
  | 0, z, h => by
    rw [List.mem_singleton.mp h]
    rfl
  | n + 1, z, h => by
    rcases List.mem_append.mp (show z ∈ (List.filter tA (ordX p q n)).map fA ++ (List.filter tB (ordX p q n)).map fB from h) with h | h
    · obtain ⟨y, hy, rfl⟩ := List.mem_map.mp h
      have := ord_word p q n y (List.mem_filter.mp hy).1
      show (y.1 ++ [97]).length = _
      rw [List.length_append, this]
      rfl
    · obtain ⟨y, hy, rfl⟩ := List.mem_map.mp h
      have := ord_word p q n y (List.mem_filter.mp hy).1
      show (y.1 ++ [98]).length = _
      rw [List.length_append, this]
      rfl
theorem words_len {p q : Nat} {w : List Nat} (h : w ∈ wordsX p q) : w.length = p + q := by
  obtain ⟨z, hz, rfl⟩ := List.mem_map.mp h
  exact ord_word p q _ z hz
end T88

set_option Elab.async false
set_option linter.all false
set_option maxRecDepth 100000
set_option maxHeartbeats 4000000
namespace T88
open PySem PySem.Spec PyProof.Rows L2 EK
abbrev sOrd : Stmt := top 16
abbrev NO : List Str := ["_law_p", "_law_q", "_law_found", "_law_turn", "_law_longer", "_law_word", "_law_x", "_law_y", "_law_row_here"]
def EntAt (H : Hp) (x : V) (z : Ent) : Prop := ∃ a, x = .ref a ∧ H a = some (.tup [.str (strL z.1), .int (z.2.1 : Int), .int (z.2.2 : Int)])
def wordsV (ws : List (List Nat)) : List V := ws.map fun w => .str (strL w)
def spOrd : Sp := fun vs H Q _ => ∃ p q : Nat, vs = [.int (p : Int), .int (q : Int)] ∧ p + q ≤ 9 ∧ ∀ a H', Same H H' → H a = none → H' a = some (.lst (wordsV (wordsX p q))) → Q (.ref a) H'
theorem yes_i {σ : L2.St} {H : Hp} {Q : Bool → Hp → Prop} (h : Q true H) : tYes σ H Q := h
theorem EntAt.same {H H' : Hp} {x : V} {z : Ent} (h : EntAt H x z) (s : ∀ b o, H b = some o → H' b = some o) : EntAt H' x z := by
  obtain ⟨a, e, h⟩ := h
  exact ⟨a, e, s _ _ h⟩
theorem EntAt.keepL {H H' : Hp} {x : V} {z : Ent} (h : EntAt H x z) (s : KeepL H H') : EntAt H' x z := by
  obtain ⟨a, e, h⟩ := h
  exact ⟨a, e, s _ _ h fun _ z => by cases z⟩
section
variable {P : Program} {w : World} {K : PySem.W.Frag} {mg : Str → Option Value} {base : Heap}
theorem ix_tupK {X : Cx} {K : PySem.W.Frag} (h : X.K = K := by rfl) : IxR X (rIxT K) := by subst h; exact ix_tup
theorem scOrd : FnScope ["_law_p", "_law_q", "_law_found", "_law_turn", "_law_longer", "_law_word", "_law_x", "_law_y", "_law_row_here"] ["_law_p", "_law_q"] (defScope sOrd) := ⟨rfl, rfl, rfl, by decide +kernel, rfl, by decide +kernel, by decide +kernel⟩
theorem ok_Ord {f : Addr} {fd : FuncData} (F : Fun K "_law_orders" "_law_orders" sOrd f fd) (T : TxtC K mg) : FnOk P w K mg base CX0 1 f fd ["_law_p", "_law_q"] spOrd := by
  refine F.ok scOrd (fun vs H Q E h => ?_) (fun cdv A outer s H vs Q E hr h => ?_)
  · obtain ⟨p, q, rfl, _⟩ := h
    rfl
  · obtain ⟨p, q, rfl, hpq, kk⟩ := h
    have nd := scOrd.nd
    have hz : sizeLine = 2 ^ 24 := sizeLine_eq
    refine ⟨_, (pss_cons (ps_set (i := 2) nd rfl (Or.inl rfl) (pe_lst (pa_cons (pe_tup (pa_cons pe_str (pa_cons (pv 0) (pa_cons (pv 1) pa_nil)))) pa_nil)))
      (pss_cons (ps_for PassesOwn.never rfl (pi_range1 (by rfl) T.range (pa_cons (pe_op op_add (pv 0) (pv 1)) pa_nil)) (pg_name (i := 3) nd rfl (Or.inl rfl)) (pss_cons (ps_setLc (i := 4) (own := [("_law_word", 5), ("_law_x", 6), ("_law_y", 7)]) (g := gTup K 3 (gCons (gName 5) (gCons (gName 6) (gCons (gName 7) gNil)))) rfl nd rfl rfl (sw_true rfl rfl rfl (by decide +kernel)) (pi_list (pv 2)) (blkOk_by (N := NO) (sc := defScope sOrd) (by decide +kernel)) (fun _ _ _ _ _ => (pg_tup rfl (pgs_cons (pg_name (i := 5) nd rfl (Or.inl rfl)) (pgs_cons (pg_name (i := 6) nd rfl (Or.inl rfl)) (pgs_cons (pg_name (i := 7) nd rfl (Or.inl rfl)) pgs_nil))))) (fun _ _ _ _ _ => (pts_one (pt_cmpR op_gt (pv 6) pe_int (nomark _)))) (fun _ _ _ _ _ => (pe_tup (pa_cons (pe_op op_add_str (pv 5) pe_str) (pa_cons (pe_op op_sub (pv 6) pe_int) (pa_cons (pv 7) pa_nil))))))
      (pss_one (ps_set (i := 2) nd rfl (Or.inl rfl) (pe_op op_cat (pv 4) (pe_lc (own := [("_law_word", 5), ("_law_x", 6), ("_law_y", 7)]) (g := gTup K 3 (gCons (gName 5) (gCons (gName 6) (gCons (gName 7) gNil)))) rfl nd (pi_list (pv 2)) (blkOk_by (N := NO) (sc := defScope sOrd) (by decide +kernel)) (fun _ _ _ _ _ => (pg_tup rfl (pgs_cons (pg_name (i := 5) nd rfl (Or.inl rfl)) (pgs_cons (pg_name (i := 6) nd rfl (Or.inl rfl)) (pgs_cons (pg_name (i := 7) nd rfl (Or.inl rfl)) pgs_nil))))) (fun _ _ _ _ _ => (pts_one (pt_cmpR op_gt (pv 7) pe_int (nomark _)))) (fun _ _ _ _ _ => (pe_tup (pa_cons (pe_op op_add_str (pv 5) pe_str) (pa_cons (pv 6) (pa_cons (pe_op op_sub (pv 7) pe_int) pa_nil)))))))))))
      (pss_one (ps_ret (pe_lc (own := [("_law_row_here", 8)]) (g := gName 8) (tt := tYes) rfl nd (pi_list (pv 2)) (blkOk_by (N := NO) (sc := defScope sOrd) (by decide +kernel)) (fun _ _ _ _ _ => (pg_name (i := 8) nd rfl (Or.inl rfl))) (fun _ _ _ _ _ => pts_nil) (fun _ _ _ _ _ => (pe_ix (ix_tupK (K := K)) (pv 8) pe_int (fun _ _ => rfl)))))))), ?_⟩
    refine ⟨_, rfl, _, rfl, (by show 3 ≤ sizeLine; decide), fun a1 z1 => ?_⟩
    obtain ⟨H1, e1, S1, A1⟩ := alloc (o := .tup [.str "", .int (p : Int), .int (q : Int)]) z1
    rw [e1]
    refine ⟨(by show 1 ≤ sizeLine; decide), fun a2 z2 => ?_⟩
    obtain ⟨H2, e2, S2, A2⟩ := alloc (o := .lst [.ref a1]) z2
    rw [e2]
    have S12 : Same H H2 := S1.trans S2
    refine ⟨_, rfl, _, rfl, _, _, rfl, rfl, ((p + q : Nat) : Int), (by show [V.int ((p : Int) + (q : Int))] = _; rw [Int.natCast_add]), by omega, by omega, ?_⟩
    have few : ∀ t, t ≤ 9 → (ordX p q t).length ≤ 512 := fun t ht => Nat.le_trans (ord_len p q t) (Nat.pow_le_pow_right (by decide) ht : 2 ^ t ≤ 2 ^ 9)
    refine for_it (walk_range (lo := 0) (n := (((p + q : Nat) : Int)).toNat)) (fun t σ H' => ∃ (R : Addr) (refs : List V) (v3 v4 v5 v6 v7 v8 : Option V), σ = [some (.int (p : Int)), some (.int (q : Int)), some (.ref R), v3, v4, v5, v6, v7, v8] ∧ Same H H' ∧ H' R = some (.lst refs) ∧ All2 (EntAt H') refs (ordX p q t)) ⟨a2, [.ref a1], none, none, none, none, none, none, rfl, S12, A2, .cons ⟨a1, rfl, S2 _ _ A1⟩ .nil⟩ (fun _ _ _ _ _ => trivial) ?_ ?_
    · rintro t u σ Hw H' hi ⟨R, refs, v3, v4, v5, v6, v7, v8, rfl, sH, hR, hrows⟩ ⟨rfl, rfl⟩
      have tl : t < p + q := by
        have h : t < (((p + q : Nat) : Int)).toNat := hi
        omega
      have fw := few t (by omega)
      refine ⟨_, rfl, R, rfl, ⟨_, .of hR⟩, fun D nD => ?_⟩
      refine lcM_list (K := K) (a := R) (xs := refs) (R := EntAt) (R' := EntAt) tA fA nD (.of hR) hrows (fun _ _ _ _ s r => r.same s) (fun _ _ _ _ s r => r.keepL s) (by omega) ?_ ?_
      · intro i x z G C C0 hz' s rx yes no
        obtain ⟨a, rfl, ha⟩ := rx
        have zl := ord_word p q t z (List.mem_of_getElem? hz')
        refine ⟨a, _, rfl, .of ha, rfl, ?_⟩
        refine ⟨_, _, rfl, _, _, rfl, _, _, rfl, rfl, ?_⟩
        refine ⟨rfl, ?_⟩
        refine ⟨_, rfl, _, _, rfl, rfl, _, rfl, ?_⟩
        by_cases ht : tA z = true
        · have h0 : (0 : Int) < (z.2.1 : Int) := by
            have := of_decide_eq_true ht
            omega
          refine iteY (decide_eq_true h0) ?_
          refine ⟨_, rfl, _, _, rfl, rfl, (by show (strL z.1).length + 1 ≤ _; rw [strL_len, hz]; omega), _, rfl, _, _, rfl, rfl, _, rfl, (by show 3 ≤ sizeLine; decide), fun t0 zt => ?_⟩
          obtain ⟨G1, g1, V1, B1⟩ := alloc (o := .tup [.str (strL z.1 ++ ("a" : Str)), .int ((z.2.1 : Int) - 1), .int (z.2.2 : Int)]) zt
          have g1' : upd G t0 (.tup [.str (strL z.1 ++ ("a" : Str)), .int ((z.2.1 : Int) - 1), .int (z.2.2 : Int)]) = G1 := g1
          rw [g1']
          refine yes ht _ _ V1 ⟨t0, rfl, ?_⟩
          rw [B1]
          show some (HO.tup _) = some (HO.tup [.str (strL (z.1 ++ [97])), .int ((z.2.1 - 1 : Nat) : Int), .int (z.2.2 : Int)])
          rw [← strL_add, show ((z.2.1 - 1 : Nat) : Int) = (z.2.1 : Int) - 1 by omega]
          rfl
        · have ht' : tA z = false := by rw [Bool.not_eq_true] at ht; exact ht
          have h0 : ¬ (0 : Int) < (z.2.1 : Int) := by
            have := of_decide_eq_false ht'
            omega
          refine iteN (decide_eq_false h0) ?_
          exact no ht' _ fun _ _ q => q
      · intro ys H2 s2 hD hall
        refine ⟨_, rfl, _, rfl, R, rfl, ⟨_, .of (s2 _ _ hR)⟩, fun D2 nD2 => ?_⟩
        refine lcM_list (K := K) (a := R) (xs := refs) (R := EntAt) (R' := EntAt) tB fB nD2 (.of (s2 _ _ hR)) (hrows.mono fun _ _ _ r => r.same s2) (fun _ _ _ _ s r => r.same s) (fun _ _ _ _ s r => r.keepL s) (by omega) ?_ ?_
        · intro i x z G C C0 hz' s rx yes no
          obtain ⟨a, rfl, ha⟩ := rx
          have zl := ord_word p q t z (List.mem_of_getElem? hz')
          refine ⟨a, _, rfl, .of ha, rfl, ?_⟩
          refine ⟨_, _, rfl, _, _, rfl, _, _, rfl, rfl, ?_⟩
          refine ⟨rfl, ?_⟩
          refine ⟨_, rfl, _, _, rfl, rfl, _, rfl, ?_⟩
          by_cases ht : tB z = true
          · have h0 : (0 : Int) < (z.2.2 : Int) := by
              have := of_decide_eq_true ht
              omega
            refine iteY (decide_eq_true h0) ?_
            refine ⟨_, rfl, _, _, rfl, rfl, (by show (strL z.1).length + 1 ≤ _; rw [strL_len, hz]; omega), _, rfl, _, rfl, _, _, rfl, rfl, (by show 3 ≤ sizeLine; decide), fun t0 zt => ?_⟩
            obtain ⟨G1, g1, V1, B1⟩ := alloc (o := .tup [.str (strL z.1 ++ ("b" : Str)), .int (z.2.1 : Int), .int ((z.2.2 : Int) - 1)]) zt
            have g1' : upd G t0 (.tup [.str (strL z.1 ++ ("b" : Str)), .int (z.2.1 : Int), .int ((z.2.2 : Int) - 1)]) = G1 := g1
            rw [g1']
            refine yes ht _ _ V1 ⟨t0, rfl, ?_⟩
            rw [B1]
            show some (HO.tup _) = some (HO.tup [.str (strL (z.1 ++ [98])), .int (z.2.1 : Int), .int ((z.2.2 - 1 : Nat) : Int)])
            rw [← strL_add, show ((z.2.2 - 1 : Nat) : Int) = (z.2.2 : Int) - 1 by omega]
            rfl
          · have ht' : tB z = false := by rw [Bool.not_eq_true] at ht; exact ht
            have h0 : ¬ (0 : Int) < (z.2.2 : Int) := by
              have := of_decide_eq_false ht'
              omega
            refine iteN (decide_eq_false h0) ?_
            exact no ht' _ fun _ _ q => q
        · intro ys2 H3 s3 hD2 hall2
          have l1 := hall.length
          have l2 := hall2.length
          rw [List.length_map] at l1 l2
          have f1 := List.length_filter_le tA (ordX p q t)
          have f2 := List.length_filter_le tB (ordX p q t)
          refine ⟨D, D2, ys, ys2, rfl, rfl, s3 _ _ hD, hD2, by omega, fun p3 z3 => ?_⟩
          obtain ⟨H4, e4, S4, A4⟩ := alloc (o := .lst (ys ++ ys2)) z3
          rw [e4]
          exact ⟨p3, ys ++ ys2, _, _, _, _, _, _, rfl, fun b o e => S4 _ _ (s3 _ _ (s2 _ _ (sH _ _ e))), A4, (hall.mono fun _ _ _ r => (r.same s3).same S4).append (hall2.mono fun _ _ _ r => r.same S4)⟩
    · rintro σ H' ⟨R, refs, v3, v4, v5, v6, v7, v8, rfl, sH, hR, hrows⟩
      have nt : (((p + q : Nat) : Int)).toNat = p + q := by omega
      rw [nt] at hrows
      have fw := few (p + q) (by omega)
      refine ⟨_, rfl, R, rfl, ⟨_, .of hR⟩, fun D nD => ?_⟩
      refine lcM_list (K := K) (a := R) (xs := refs) (R := EntAt) (R' := fun _ x w => x = V.str (strL w)) (fun _ => true) (fun z => z.1) nD (.of hR) hrows (fun _ _ _ _ s r => r.same s) (fun _ _ _ _ _ r => r) (by omega) ?_ ?_
      · intro i x z G C C0 hz' s rx yes no
        obtain ⟨a, rfl, ha⟩ := rx
        refine ⟨rfl, ?_⟩
        refine yes_i ?_
        refine iteY rfl ?_
        refine ⟨_, rfl, a, _, 0, _, rfl, rfl, .of ha, rfl, ?_⟩
        exact yes rfl _ _ (fun _ _ q => q) rfl
      · intro ys H2 s2 hD hall
        have e := hall.eq_map
        rw [List.filter_eq_self.mpr (fun _ _ => rfl)] at e
        have hD0 : H D = none := by
          cases e2 : H D with
          | none => rfl
          | some o => rw [sH _ _ e2] at nD; cases nD
        refine kk D H2 (fun b o e => s2 _ _ (sH _ _ e)) hD0 ?_
        rw [hD, e]
        unfold wordsV wordsX
        rw [List.map_map]
end
end T88

set_option Elab.async false
set_option linter.all false
set_option maxRecDepth 100000
set_option maxHeartbeats 4000000
/-! IntsKit: tuples and lists of ints as data. -/
namespace L2
open PySem
def tI (ns : List Int) : PyData := .tuple (ns.map PyData.int)
def lI (ns : List Int) : PyData := .list (ns.map PyData.int)
theorem dp_ints {K : PySem.W.Frag} {H : Hp} : ∀ ns : List Int, DpAll K H (ns.map V.int) (ns.map PyData.int)
  | [] => .nil
  | n :: r => .cons (.int n) (dp_ints r)
theorem dp_tI {K : PySem.W.Frag} {H : Hp} {a : Addr} {ns : List Int} (h : SqT K H a (ns.map V.int)) : Dp K H (.ref a) (tI ns) := .tup h (dp_ints ns)
theorem dp_lI {K : PySem.W.Frag} {H : Hp} {a : Addr} {ns : List Int} (h : SqL K H a (ns.map V.int)) : Dp K H (.ref a) (lI ns) := .lst h (dp_ints ns)
theorem shaped_lI (ns : List Int) : SeqAt.shaped (lI ns) = true := PySem.W.ke_shaped_ints ns
theorem shaped_tI (ns : List Int) : SeqAt.shaped (tI ns) = true := by
  simp [tI, SeqAt.shaped, PyData.canLay0, PyData.depth, PySem.W.ke_canLayAll0, PySem.W.ke_depthAll]
theorem eqvAll_ints : ∀ ns ms : List Int, PyData.eqvAll (ns.map PyData.int) (ms.map PyData.int) = decide (ns = ms)
  | [], [] => by simp [PyData.eqvAll]
  | [], _ :: _ => by simp [PyData.eqvAll]
  | _ :: _, [] => by simp [PyData.eqvAll]
  | n :: r, k :: q => by
    simp only [List.map_cons, PyData.eqvAll, PyData.eqv, eqvAll_ints r q]
    by_cases h : n = k <;> simp [h]
theorem eqv_tI (ns ms : List Int) : PyData.eqv (tI ns) (tI ms) = decide (ns = ms) := by
  unfold tI
  simp only [PyData.eqv]
  exact eqvAll_ints ns ms
theorem eqv_lI (ns ms : List Int) : PyData.eqv (lI ns) (lI ms) = decide (ns = ms) := by
  unfold lI
  simp only [PyData.eqv]
  exact eqvAll_ints ns ms
theorem depth_tI (ns : List Int) : (tI ns).depth = 1 := by simp [tI, PyData.depth, PySem.W.ke_depthAll]
theorem flat_ints (ns : List Int) : (ns.map V.int).all flatV = true := by
  rw [List.all_map, List.all_eq_true]
  intro n _
  rfl
theorem inV_ints (k : Int) (ns : List Int) : inV (.int k) (ns.map V.int) = ns.any (· == k) := by
  unfold inV
  rw [List.any_map]
  rfl
/-- a tuple of ints -/
def RTup (H : Hp) (x : V) (ns : List Int) : Prop := ∃ p, x = .ref p ∧ H p = some (.tup (ns.map V.int))
theorem rtup_keep (H H' : Hp) (x : V) (ns : List Int) (k : KeepL H H') (r : RTup H x ns) : RTup H' x ns := by
  obtain ⟨p, rfl, e⟩ := r
  exact ⟨p, rfl, k _ _ e fun _ z => by cases z⟩
theorem rtup_same (H H' : Hp) (x : V) (ns : List Int) (s : ∀ b o, H b = some o → H' b = some o) (r : RTup H x ns) : RTup H' x ns := rtup_keep H H' x ns (.of s) r
def RInt (_ : Hp) (x : V) (n : Int) : Prop := x = .int n
theorem rint_keep (H H' : Hp) (x : V) (n : Int) (_ : KeepL H H') (r : RInt H x n) : RInt H' x n := r
theorem rint_map {H : Hp} {ys : List V} {ns : List Int} (h : All2 (RInt H) ys ns) : ys = ns.map V.int := All2.eq_map (f := V.int) h
/-- tuples of ints by their order -/
def leT (a b : List Int) : Bool := dle tI a b
def sortT (xs : List (List Int)) : List (List Int) := isort leT xs
theorem toks_tI (ns : List Int) : ∃ r, PySem.W.keyToks (tI ns) = r := ⟨_, rfl⟩
end L2
namespace L2
open PySem
theorem toksAll_inj : ∀ {ns ms : List Int}, PySem.W.keyToksAll (ns.map PyData.int) = PySem.W.keyToksAll (ms.map PyData.int) → ns = ms
  | [], [], _ => rfl
  | [], m :: r, h => by simp [PySem.W.keyToksAll] at h
  | n :: r, [], h => by simp [PySem.W.keyToksAll] at h
  | n :: r, m :: q, h => by
    simp only [List.map_cons, PySem.W.keyToksAll, PySem.W.keyToks, List.cons_append, List.nil_append] at h
    injection h with _ h
    injection h with h1 h2
    injection h1 with h1
    rw [h1, toksAll_inj h2]
theorem toks_inj {ns ms : List Int} (h : PySem.W.keyToks (tI ns) = PySem.W.keyToks (tI ms)) : ns = ms := by
  unfold tI at h
  simp only [PySem.W.keyToks] at h
  exact toksAll_inj h
theorem zip_snd {α β : Type} {R : α → β → Prop} {xs : List α} {zs : List β} (h : All2 R xs zs) : (xs.zip zs).map (·.2) = zs ∧ (∀ q ∈ xs.zip zs, R q.1 q.2) ∧ (xs.zip zs).map (·.1) = xs := by
  induction h with
  | nil => exact ⟨rfl, fun q hq => (by cases hq), rfl⟩
  | cons h t ih =>
    refine ⟨?_, fun q hq => ?_, ?_⟩
    · rw [List.zip_cons_cons, List.map_cons, ih.1]
    · rw [List.zip_cons_cons] at hq
      rcases List.mem_cons.mp hq with rfl | hq
      · exact h
      · exact ih.2.1 q hq
    · rw [List.zip_cons_cons, List.map_cons, ih.2.2]
theorem all2_of_pairs {α β : Type} {R : α → β → Prop} : ∀ {qs : List (α × β)}, (∀ q ∈ qs, R q.1 q.2) → All2 R (qs.map (·.1)) (qs.map (·.2))
  | [], _ => .nil
  | q :: qs, h => .cons (h q List.mem_cons_self) (all2_of_pairs fun p hp => h p (List.mem_cons_of_mem _ hp))
def prD (q : V × List Int) : V × PyData := (q.1, tI q.2)
theorem sorted_tups {R : V → List Int → Prop} {xs : List V} {zs : List (List Int)} (h : All2 R xs zs) : All2 R ((((xs.zip zs).map prD).mergeSort (PySem.W.dataLe false (·.2))).map (·.1)) (sortT zs) := by
  obtain ⟨e2, hR, _⟩ := zip_snd h
  have h1 := List.map_mergeSort (f := prD) (r := dle fun q : V × List Int => tI q.2) (s := PySem.W.dataLe false (·.2)) (l := xs.zip zs) fun a _ b _ => rfl
  rw [← h1, List.map_map]
  have hp := List.mergeSort_perm (xs.zip zs) (dle fun q : V × List Int => tI q.2)
  have hs : ((xs.zip zs).mergeSort (dle fun q : V × List Int => tI q.2)).Pairwise (fun x y => dle (fun q : V × List Int => tI q.2) x y = true) := List.pairwise_mergeSort (fun a b c => dle_trans _ a b c) (fun a b => dle_total _ a b) _
  have e3 : ((xs.zip zs).mergeSort (dle fun q : V × List Int => tI q.2)).map (·.2) = sortT zs := by
    refine sorted_uniq leT (fun x _ y _ a b => toks_inj (dle_anti a b)) ?_ ?_ (isort_sorted leT (dle_trans tI) (dle_total tI) zs)
    · have q := (hp.map (·.2)).trans (by rw [e2])
      exact q.trans (isort_perm leT zs).symm
    · rw [List.pairwise_map]
      exact hs
  rw [← e3]
  exact all2_of_pairs fun q hq => hR q (hp.mem_iff.mp hq)
theorem alike_ints : ∀ ns ms : List Int, PySem.W.alikeAll (ns.map PyData.int) (ms.map PyData.int) = true
  | [], [] => rfl
  | [], _ :: _ => rfl
  | _ :: _, [] => rfl
  | n :: r, m :: q => by simp [PySem.W.alikeAll, PySem.W.alike, alike_ints r q]
/-- sorted(xs) of tuples of ints, none empty -/
theorem sortedT_ok {K : PySem.W.Frag} {H : Hp} {a : Addr} {xs : List V} {zs : List (List Int)} {Q : VK} (hS : H a = some (.lst xs)) (h : All2 (RTup H) xs zs) (hne : ∀ z ∈ zs, z ≠ [])
    (k : ∀ p ys, H p = none → All2 (RTup H) ys (sortT zs) → Q (.ref p) (upd H p (.lst ys))) : rSortedD K [V.ref a] H Q := by
  obtain ⟨e2, hR, e1⟩ := zip_snd h
  have em : ((xs.zip zs).map prD).map (·.1) = xs := by
    rw [List.map_map]
    exact e1
  have ed : ((xs.zip zs).map prD).map (·.2) = zs.map tI := by
    rw [List.map_map]
    conv => rhs; rw [← e2, List.map_map]
    rfl
  refine ⟨a, (xs.zip zs).map prD, rfl, by rw [em]; exact .of hS, fun b hb => ?_, ?_, ?_, fun b hb => ?_, fun p hp => k p _ hp (sorted_tups h)⟩
  · obtain ⟨q, hq, rfl⟩ := List.mem_map.mp hb
    obtain ⟨p, e, hp⟩ := hR q hq
    show Dp K H q.1 (tI q.2)
    rw [e]
    exact dp_tI (.of hp)
  · rw [ed]
    intro d hd d' hd'
    obtain ⟨n, _, rfl⟩ := List.mem_map.mp hd
    obtain ⟨m, _, rfl⟩ := List.mem_map.mp hd'
    simp only [tI, PySem.W.alike]
    exact alike_ints n m
  · rw [ed]
    refine .inl fun d hd => ?_
    obtain ⟨n, hn, rfl⟩ := List.mem_map.mp hd
    cases n with
    | nil => exact absurd rfl (hne _ hn)
    | cons n r => exact ⟨.int n, r.map PyData.int, rfl⟩
  · obtain ⟨q, hq, rfl⟩ := List.mem_map.mp hb
    show (tI q.2).depth ≤ 50
    rw [depth_tI]
    decide
end L2
namespace L2
open PySem
theorem catA_ok {K : PySem.W.Frag} {H : Hp} {a b : Addr} {xs ys : List V} {Q : VK} (ha : H a = some (.tup xs)) (hb : H b = some (.tup ys)) (hl : xs.length + ys.length ≤ sizeLine) (k : ∀ p H', Same H H' → H' p = some (.tup (xs ++ ys)) → Q (.ref p) H') : rCatA K (.ref a) (.ref b) H Q :=
  ⟨a, b, xs, ys, rfl, rfl, .of ha, .of hb, hl, fun e => k _ _ (.refl _) (by rw [e]; exact hb), fun _ e => k _ _ (.refl _) (by rw [e, List.append_nil]; exact ha), fun _ _ p hp => k _ _ (fun c u e => by rw [upd_ne (ne_of_none e hp)]; exact e) upd_same⟩
theorem cutV_whole (xs : List V) (lo hi : Option Int) (h : HT.sIx xs.length 0 lo = 0 ∧ HT.sIx xs.length xs.length hi = xs.length) : cutV xs lo hi = xs := by
  unfold cutV
  rw [h.1, h.2]
  simp
theorem slA_ok {K : PySem.W.Frag} {H : Hp} {a : Addr} {xs : List V} {lo hi : Option Int} {Q : VK} (ha : H a = some (.tup xs)) (k : ∀ p H', Same H H' → H' p = some (.tup (cutV xs lo hi)) → Q (.ref p) H') : rSlA K (.ref a) lo hi H Q :=
  ⟨a, xs, rfl, .of ha, fun e => k _ _ (.refl _) (by rw [cutV_whole xs lo hi e]; exact ha), fun _ p hp => k _ _ (fun c u e => by rw [upd_ne (ne_of_none e hp)]; exact e) upd_same⟩
end L2
namespace L2
open PySem PySem.Spec PyProof.Rows
section
variable {X : Cx}
/-- xs + ys of lists that may be read only -/
def rCatS (K : PySem.W.Frag) : R2 := fun x y H Q => ∃ l b xs zs, x = .ref l ∧ y = .ref b ∧ SqL K H l xs ∧ SqL K H b zs ∧ xs.length + zs.length ≤ sizeLine ∧ ∀ p, H p = none → Q (.ref p) (upd H p (.lst (xs ++ zs)))
theorem op_catS : OpR X (binaryOp .Add) (rCatS X.K) := by
  intro pins s σ H x y v u Q I rx ry h
  obtain ⟨l, b, xs, zs, rfl, rfl, ha, hb, hz, q⟩ := h
  cases rx
  cases ry
  obtain ⟨its, r1, p1, _⟩ := I.list ha
  obtain ⟨its2, r2, p2, _⟩ := I.list hb
  obtain ⟨⟨cls, dd, data, sl⟩, n, ho, hc, hdn, hd⟩ := p1
  obtain ⟨⟨cls2, dd2, data2, sl2⟩, n2, ho2, hc2, hdn2, hd2⟩ := p2
  simp only at hc hdn hd hc2 hdn2 hd2
  subst hc hdn hd hc2 hdn2 hd2
  have l1 := r1.length
  have l2 := r2.length
  refine concat_meets ⟨_, ho, rfl⟩ ⟨_, ho2, rfl⟩ noFill_list_add seq_list_add PySem.F.slot_list_add PySem.F.entry_list_add (PySem.F.args_list_add_2 _ _)
    (list_addW l b its.toArray its2.toArray n n2 none none sl sl2 (by rw [List.size_toArray, List.size_toArray]; omega)) ⟨ho, ho2, ?_⟩
  have ea : its.toArray ++ its2.toArray = (its ++ its2).toArray := by simp
  rw [ea]
  exact ⟨.ref _, _, I.lnew (t' := s.toks) (r1.append r2) (by rw [List.length_append]; omega), rfl, q _ I.fresh⟩
end
end L2

set_option Elab.async false
set_option linter.all false
set_option maxRecDepth 100000
set_option maxHeartbeats 4000000
/-! SortGen: sorted(list) of things that are told by data: the plain isort of what tells them. -/
namespace L2
open PySem PySem.Spec PyProof.Rows EK
section
variable {β : Type} (key : β → PyData) (inj : ∀ a b, PySem.W.keyToks (key a) = PySem.W.keyToks (key b) → a = b)
def prG (q : V × β) : V × PyData := (q.1, key q.2)
include inj
theorem sorted_gen {R : V → β → Prop} {xs : List V} {zs : List β} (h : All2 R xs zs) : All2 R ((((xs.zip zs).map (prG key)).mergeSort (PySem.W.dataLe false (·.2))).map (·.1)) (isort (dle key) zs) := by
  obtain ⟨e2, hR, _⟩ := zip_snd h
  have h1 := List.map_mergeSort (f := prG key) (r := dle fun q : V × β => key q.2) (s := PySem.W.dataLe false (·.2)) (l := xs.zip zs) fun a _ b _ => rfl
  rw [← h1, List.map_map]
  have hp := List.mergeSort_perm (xs.zip zs) (dle fun q : V × β => key q.2)
  have hs : ((xs.zip zs).mergeSort (dle fun q : V × β => key q.2)).Pairwise (fun x y => dle (fun q : V × β => key q.2) x y = true) := List.pairwise_mergeSort (fun a b c => dle_trans _ a b c) (fun a b => dle_total _ a b) _
  have e3 : ((xs.zip zs).mergeSort (dle fun q : V × β => key q.2)).map (·.2) = isort (dle key) zs := by
    refine sorted_uniq (dle key) (fun x _ y _ a b => inj _ _ (dle_anti a b)) ?_ ?_ (isort_sorted (dle key) (dle_trans key) (dle_total key) zs)
    · have q := (hp.map (·.2)).trans (by rw [e2])
      exact q.trans (isort_perm (dle key) zs).symm
    · rw [List.pairwise_map]
      exact hs
  rw [← e3]
  exact all2_of_pairs fun q hq => hR q (hp.mem_iff.mp hq)
theorem sortedG_ok {K : PySem.W.Frag} {H : Hp} {a : Addr} {R : V → β → Prop} {xs : List V} {zs : List β} {Q : VK} (hS : H a = some (.lst xs)) (h : All2 R xs zs) (hd : ∀ x z, R x z → Dp K H x (key z))
    (al : ∀ x y, PySem.W.alike (key x) (key y) = true) (so : PySem.W.Sortable (zs.map key)) (dep : ∀ z, (key z).depth ≤ 50)
    (k : ∀ p ys, H p = none → All2 R ys (isort (dle key) zs) → Q (.ref p) (upd H p (.lst ys))) : rSortedD K [V.ref a] H Q := by
  obtain ⟨e2, hR, e1⟩ := zip_snd h
  have em : ((xs.zip zs).map (prG key)).map (·.1) = xs := by
    rw [List.map_map]
    exact e1
  have ed : ((xs.zip zs).map (prG key)).map (·.2) = zs.map key := by
    rw [List.map_map]
    conv => rhs; rw [← e2, List.map_map]
    rfl
  refine ⟨a, (xs.zip zs).map (prG key), rfl, by rw [em]; exact .of hS, fun b hb => ?_, ?_, ?_, fun b hb => ?_, fun p hp => k p _ hp (sorted_gen key inj h)⟩
  · obtain ⟨q, hq, rfl⟩ := List.mem_map.mp hb
    exact hd _ _ (hR q hq)
  · rw [ed]
    intro d hd d' hd'
    obtain ⟨n, _, rfl⟩ := List.mem_map.mp hd
    obtain ⟨m, _, rfl⟩ := List.mem_map.mp hd'
    exact al n m
  · rw [ed]
    exact so
  · obtain ⟨q, hq, rfl⟩ := List.mem_map.mp hb
    exact dep _
end
end L2

set_option Elab.async false
set_option linter.all false
set_option maxRecDepth 100000
set_option maxHeartbeats 4000000
namespace T88
open PySem PySem.Spec PyProof.Rows L2 EK
abbrev sRow : Stmt := top 13
abbrev NW : List Str := ["_law_word", "_law_turns_so", "_law_at", "_law_turn"]
theorem tX_inj (a b : List Nat × Nat) (h : PySem.W.keyToks (tX a) = PySem.W.keyToks (tX b)) : a = b := by
  have e1 : ∀ z : List Nat × Nat, PySem.W.keyToks (tX z) = [.inl 1, .inr z.1, .inl 1, .inr [z.2], .inl 0] := fun z => by
    simp [tX, strL, PySem.W.keyToks, PySem.W.keyToksAll]
  rw [e1, e1] at h
  injection h with _ h
  injection h with h1 h
  injection h with _ h
  injection h with h2 _
  injection h1 with h1
  injection h2 with h2
  injection h2 with h2 _
  exact Prod.ext h1 h2
def TurnAt (H : Hp) (x : V) (z : List Nat × Nat) : Prop := ∃ a, x = .ref a ∧ H a = some (.tup [.str (strL z.1), .str (strL [z.2])])
theorem TurnAt.same {H H' : Hp} {x : V} {z : List Nat × Nat} (h : TurnAt H x z) (s : ∀ b o, H b = some o → H' b = some o) : TurnAt H' x z := by
  obtain ⟨a, e, h⟩ := h
  exact ⟨a, e, s _ _ h⟩
theorem TurnAt.keepL {H H' : Hp} {x : V} {z : List Nat × Nat} (h : TurnAt H x z) (s : KeepL H H') : TurnAt H' x z := by
  obtain ⟨a, e, h⟩ := h
  exact ⟨a, e, s _ _ h fun _ z => by cases z⟩
def spRow : Sp := fun vs H Q _ => ∃ w : List Nat, vs = [.str (strL w)] ∧ w.length ≤ 9 ∧ ∀ H', Same H H' → Q (.str (strL (rowX w))) H'
theorem ahead_at {w : List Nat} {i : Nat} (h : i < w.length) : atI w ((i : Int) - 1) = some (aheadX w i) := by
  unfold atI ixN aheadX
  by_cases e : i = 0
  · subst e
    rw [if_neg (by omega), if_pos (by omega), if_pos rfl]
    show w[(((0 : Nat) : Int) - 1 + (w.length : Nat)).toNat]? = _
    rw [show (((0 : Nat) : Int) - 1 + (w.length : Nat)).toNat = w.length - 1 by omega, List.getD_eq_getElem?_getD, List.getElem?_eq_getElem (by omega)]
    rfl
  · rw [if_pos (by omega), if_pos (by omega), if_neg e]
    show w[((i : Int) - 1).toNat]? = _
    rw [show ((i : Int) - 1).toNat = i - 1 by omega, List.getD_eq_getElem?_getD, List.getElem?_eq_getElem (by omega)]
    rfl
theorem row_len (w : List Nat) : (rowX w).length = w.length := by
  unfold rowX rotX
  rw [List.length_map, (isort_perm (dle tX) _).length_eq, List.length_map, List.length_range]
theorem joinL_nil : ∀ ys : List (List Nat), TL.joinL [] ys = ys.flatten
  | [] => rfl
  | [p] => by rw [List.flatten_cons, List.flatten_nil, List.append_nil]; rfl
  | p :: q :: r => (show p ++ TL.joinL [] (q :: r) = _ from by rw [joinL_nil (q :: r)]; rfl)
theorem join_list (ys : List Str) : (Txt.join "" ys).cps.toList = (ys.map fun y => y.cps.toList).flatten := by
  have e : ys = (ys.map fun y => y.cps.toList).map SX.S := by
    rw [List.map_map]
    exact (List.map_id' ys).symm.trans (List.map_congr_left fun y _ => (SX.S_tl y).symm)
  have h := SX.join_S [] (ys.map fun y => y.cps.toList)
  rw [← e, joinL_nil] at h
  exact congrArg (fun x : Str => x.cps.toList) h
theorem ones_flat : ∀ l : List Nat, (l.map fun c => [c]).flatten = l
  | [] => rfl
  | c :: l => by rw [List.map_cons, List.flatten_cons, ones_flat l]; rfl
theorem join_signs (l : List Nat) : Txt.join "" (l.map fun c => strL [c]) = strL l := by
  rw [strL_of (Txt.join _ _), join_list, List.map_map]
  congr 1
  have e : (fun y : Str => y.cps.toList) ∘ (fun c => strL [c]) = fun c => [c] := by
    funext c
    exact strL_list [c]
  rw [e, ones_flat]
theorem sum_ones : ∀ l : List Nat, ((l.map fun c => strL [c]).map (·.length)).sum = l.length
  | [] => rfl
  | c :: l => by
    rw [List.map_cons, List.map_cons, List.sum_cons, sum_ones l, List.length_cons, strL_len]
    show 1 + _ = _
    omega
section
variable {P : Program} {w : World} {K : PySem.W.Frag} {mg : Str → Option Value} {base : Heap}
theorem scRow : FnScope ["_law_word", "_law_turns_so", "_law_at", "_law_turn"] ["_law_word"] (defScope sRow) := ⟨rfl, rfl, rfl, by decide +kernel, rfl, by decide +kernel, by decide +kernel⟩
theorem ok_Row {f : Addr} {fd : FuncData} (F : Fun K "_law_row" "_law_row" sRow f fd) (T : TxtC K mg) : FnOk P w K mg base CX0 1 f fd ["_law_word"] spRow := by
  refine F.ok scRow (fun vs H Q E h => ?_) (fun cdv A outer s H vs Q E hr h => ?_)
  · obtain ⟨p, rfl, _⟩ := h
    rfl
  · obtain ⟨w, rfl, hw, kk⟩ := h
    have nd := scRow.nd
    have hu : (A.deeper (PyProof.Rows.envOfC "_law_row" (defScope sRow) s.heap.objs.size f cdv)).units + 64 < cLine := hr.units
    have hz : sizeLine = 2 ^ 24 := sizeLine_eq
    refine ⟨_, (pss_cons (ps_set (i := 1) nd rfl (Or.inl rfl) (pe_callB (cr_sortedD hu) (by rfl) T.sorted (by decide +kernel) (pa_cons (pe_lc (own := [("_law_at", 2)]) (g := gName 2) (tt := tYes) rfl nd (pi_range1 (by rfl) T.range (pa_cons (pe_callB call_len_str (by rfl) T.len (by decide +kernel) (pa_cons (pv 0) pa_nil)) pa_nil)) (blkOk_by (N := NW) (sc := defScope sRow) (by decide +kernel)) (fun _ _ _ _ _ => (pg_name (i := 2) nd rfl (Or.inl rfl))) (fun _ _ _ _ _ => pts_nil) (fun _ _ _ _ _ => (pe_tup (pa_cons (pe_op op_add_str (pe_slice sl_str (pv 0) (po_some (pv 2)) po_none) (pe_slice sl_str (pv 0) po_none (po_some (pv 2)))) (pa_cons (pe_ix ix_str (pv 0) (pe_op op_sub (pv 2) pe_int) (fun _ _ => rfl)) pa_nil))))) pa_nil)))
      (pss_one (ps_ret (pe_join pe_str (pe_lc (own := [("_law_turn", 3)]) (g := gName 3) (tt := tYes) rfl nd (pi_list (pv 1)) (blkOk_by (N := NW) (sc := defScope sRow) (by decide +kernel)) (fun _ _ _ _ _ => (pg_name (i := 3) nd rfl (Or.inl rfl))) (fun _ _ _ _ _ => pts_nil) (fun _ _ _ _ _ => (pe_ix (ix_tupK (K := K)) (pv 3) pe_int (fun _ _ => rfl)))))))), ?_⟩
    have wl : (strL w).length ≤ sizeLine := by rw [strL_len, hz]; omega
    refine ⟨_, rfl, strL w, rfl, wl, ((w.length : Nat) : Int), (by show [V.int (((strL w).length : Nat) : Int)] = _; rw [strL_len]), by omega, by omega, fun D nD => ?_⟩
    have hn : ((w.length : Nat) : Int).toNat = w.length := by omega
    refine lcM_range (lo := 0) (n := ((w.length : Nat) : Int).toNat) (R' := TurnAt) (fun _ => true) (turnX w) nD (fun _ _ _ _ s r => r.keepL s) (by omega) ?_ ?_
    · intro i G C C0 hi s yes no
      have hi2 : i < w.length := by omega
      rw [Int.zero_add]
      refine ⟨rfl, ?_⟩
      refine yes_i ?_
      refine iteY rfl ?_
      refine ⟨_, rfl, _, rfl, _, rfl, ?_⟩
      dsimp only [tNoPart]
      show rSlS _ _ none _ _
      refine ⟨_, rfl, wl, ?_⟩
      rw [cutL]
      refine ⟨_, rfl, _, rfl, _, rfl, _, rfl, wl, ?_⟩
      rw [takeL]
      refine ⟨_, _, rfl, rfl, (by rw [strL_len, strL_len, List.length_drop, List.length_take, hz]; omega), ?_⟩
      rw [strL_add]
      refine ⟨_, rfl, _, rfl, _, _, rfl, rfl, strL w, _, aheadX w i, rfl, rfl, wl, (by rw [strL_list]; exact ahead_at hi2), (by show 2 ≤ sizeLine; decide), fun t0 zt => ?_⟩
      obtain ⟨G1, g1, V1, B1⟩ := alloc (o := .tup [.str (strL (w.drop i ++ w.take i)), .str (strL [aheadX w i])]) zt
      have g1' : upd G t0 (.tup [.str (strL (w.drop i ++ w.take i)), .str ⟨#[aheadX w i]⟩]) = G1 := g1
      rw [g1']
      exact yes rfl _ _ V1 ⟨t0, rfl, B1⟩
    · intro ys H2 s2 hD hall
      rw [List.filter_eq_self.mpr (fun _ _ => rfl), hn] at hall
      dsimp only [tNil]
      show rSortedD K [V.ref D] H2 _
      refine sortedG_ok (K := K) tX tX_inj (R := TurnAt H2) hD hall (fun x z ⟨a, e, h⟩ => by rw [e]; exact .tup (.of h) (.cons (.str _) (.cons (.str _) .nil))) (fun x y => by simp [tX, PySem.W.alike, PySem.W.alikeAll]) (.inl fun d hd => ?_) (fun z => by simp [tX, PyData.depth, PyData.depthAll]) fun p zs hp hall2 => ?_
      · obtain ⟨z, _, rfl⟩ := List.mem_map.mp hd
        exact ⟨_, _, rfl⟩
      obtain ⟨H3, e3, S3, A3⟩ := alloc (o := .lst zs) hp
      rw [e3]
      have lz := hall2.length
      have lr : (isort (dle tX) (rotX w)).length = w.length := by
        rw [(isort_perm (dle tX) _).length_eq]
        unfold rotX
        rw [List.length_map, List.length_range]
      refine ⟨⟨_, rfl⟩, _, rfl, p, rfl, ⟨_, .of A3⟩, fun D2 nD2 => ?_⟩
      refine lcM_list (K := K) (a := p) (xs := zs) (zs := isort (dle tX) (rotX w)) (R := TurnAt) (R' := fun _ x z => x = V.str (strL [z])) (fun _ => true) (fun z => z.2) nD2 (.of A3) (hall2.mono fun _ _ _ r => r.same S3) (fun _ _ _ _ s r => r.same s) (fun _ _ _ _ _ r => r) (by omega) ?_ ?_
      · intro i x z G C C0 hz' s rx yes no
        obtain ⟨a, rfl, ha⟩ := rx
        refine ⟨rfl, ?_⟩
        refine yes_i ?_
        refine iteY rfl ?_
        refine ⟨_, rfl, a, _, 1, _, rfl, rfl, .of ha, rfl, ?_⟩
        exact yes rfl _ _ (fun _ _ q => q) rfl
      · intro ys2 H4 s4 hD4 hall4
        have e := hall4.eq_map
        rw [List.filter_eq_self.mpr (fun _ _ => rfl)] at e
        have hrow : (isort (dle tX) (rotX w)).map (fun z => z.2) = rowX w := rfl
        rw [hrow] at e
        have e2 : ys2 = ((rowX w).map fun c => strL [c]).map V.str := by rw [e, List.map_map]; rfl
        rw [e2] at hD4
        refine ⟨"", D2, _, rfl, rfl, .inl (.of hD4), ?_, ?_⟩
        · rw [sum_ones, row_len]
          show w.length + _ * 0 ≤ _
          omega
        · rw [join_signs]
          exact kk H4 fun b o e => s4 _ _ (S3 _ _ (s2 _ _ e))
end
end T88

set_option Elab.async false
set_option linter.all false
set_option maxRecDepth 100000
set_option maxHeartbeats 4000000
namespace T88
open PySem PySem.Spec PyProof.Rows L2 EK
abbrev sDue : Stmt := top 17
abbrev ND : List Str := ["_law_p", "_law_q", "_law_best", "_law_word", "_law_row_here", "_law_many", "_law_at"]
def bestV : Option Nat → V
  | none => .non
  | some m => .int (m : Int)
def spDue : Sp := fun vs H Q _ => ∃ p q : Nat, vs = [.int (p : Int), .int (q : Int)] ∧ 1 ≤ p ∧ 1 ≤ q ∧ p + q ≤ 9 ∧ ∀ H', Same H H' → Q (bestV (dueX p q)) H'
theorem innerL (w : List Nat) (h : 1 ≤ w.length) : cutS (strL w ++ strL w) (some 1) (some (-1)) = strL (innerX w) := by
  rw [strL_add, strL_of (cutS _ _ _)]
  congr 1
  show (((strL (w ++ w)).cps.toList.drop (HT.sIx (strL (w ++ w)).length 0 (some 1))).take (HT.sIx (strL (w ++ w)).length (strL (w ++ w)).length (some (-1)) - HT.sIx (strL (w ++ w)).length 0 (some 1))).toArray.toList = _
  have hl : (strL (w ++ w)).length = 2 * w.length := by rw [strL_len, List.length_append]; omega
  have e1 : HT.sIx (strL (w ++ w)).length 0 (some 1) = 1 := by
    have h2 := HT.sIx_nat (strL (w ++ w)).length 0 1
    rw [show ((1 : Nat) : Int) = 1 from rfl] at h2
    rw [h2, hl]
    omega
  have e2 : HT.sIx (strL (w ++ w)).length (strL (w ++ w)).length (some (-1)) = 2 * w.length - 1 := by
    show (if (-1 : Int) < 0 then ((-1 : Int) + ((strL (w ++ w)).length : Int)).toNat else min (-1 : Int).toNat (strL (w ++ w)).length) = _
    rw [if_pos (by decide), hl]
    omega
  rw [e1, e2, strL_list]
  unfold innerX
  simp only [List.toList_toArray]
  congr 1
theorem sign_at {l : List Nat} {i : Nat} (h : i < l.length) : atI l (i : Int) = some (l.getD i 0) := by
  refine atI_nat ?_
  rw [List.getD_eq_getElem?_getD, List.getElem?_eq_getElem h]
  rfl
section
variable {P : Program} {w : World} {K : PySem.W.Frag} {mg : Str → Option Value} {base : Heap}
theorem scDue : FnScope ["_law_p", "_law_q", "_law_best", "_law_word", "_law_row_here", "_law_many", "_law_at"] ["_law_p", "_law_q"] (defScope sDue) := ⟨rfl, rfl, rfl, by decide +kernel, rfl, by decide +kernel, by decide +kernel⟩
theorem ok_Due {f fOR fRW : Addr} {fd fdOR fdRW : FuncData} (F : Fun K "_law_due" "_law_due" sDue f fd) (T : TxtC K mg)
    (GOR : FnOk P w K mg base CX0 1 fOR fdOR ["_law_p", "_law_q"] spOrd) (gOR : mg "_law_orders" = some (.ref fOR)) (kOR : PySem.W.keepIn K (.ref fOR) = true) (bOR : Binds K fdOR ["_law_p", "_law_q"] [])
    (GRW : FnOk P w K mg base CX0 1 fRW fdRW ["_law_word"] spRow) (gRW : mg "_law_row" = some (.ref fRW)) (kRW : PySem.W.keepIn K (.ref fRW) = true) (bRW : Binds K fdRW ["_law_word"] []) :
    FnOk P w K mg base CX0 2 f fd ["_law_p", "_law_q"] spDue := by
  refine F.ok scDue (fun vs H Q E h => ?_) (fun cdv A outer s H vs Q E hr h => ?_)
  · obtain ⟨p, q, rfl, _⟩ := h
    rfl
  · obtain ⟨p, q, rfl, hp, hq, hpq, kk⟩ := h
    have nd := scDue.nd
    have hr1 : Room 1 _ := hr
    have hz : sizeLine = 2 ^ 24 := sizeLine_eq
    refine ⟨_, (pss_cons (ps_set (i := 2) nd rfl (Or.inl rfl) pe_non)
      (pss_cons (ps_for PassesOwn.never rfl (pi_list (pe_call GOR hr1 rfl gOR kOR bOR .nil pass0 (pa_cons (pv 0) (pa_cons (pv 1) pa_nil)))) (pg_name (i := 3) nd rfl (Or.inl rfl)) (pss_one (ps_if (pt_cmpR op_notin_str (pv 3) (pe_slice sl_str (pe_op op_add_str (pv 3) (pv 3)) (po_some pe_int) (po_some (pe_un un_neg pe_int))) (by rfl)) (pss_cons (ps_set (i := 4) nd rfl (Or.inr rfl) (pe_call GRW hr1 rfl gRW kRW bRW .nil pass0 (pa_cons (pv 3) pa_nil)))
      (pss_cons (ps_set (i := 5) nd rfl (Or.inl rfl) (pe_op op_add pe_int (pe_callB call_len_seq (by rfl) T.len (by decide +kernel) (pa_cons (pe_lc (own := [("_law_at", 6)]) (g := gName 6) rfl nd (pi_range2 (by rfl) T.range (pa_cons pe_int (pa_cons (pe_callB call_len_str (by rfl) T.len (by decide +kernel) (pa_cons (pv 4) pa_nil)) pa_nil))) (blkOk_by (N := ND) (sc := defScope sDue) (by decide +kernel)) (fun _ _ _ _ _ => (pg_name (i := 6) nd rfl (Or.inl rfl))) (fun _ _ _ _ _ => (pts_one (pt_cmpR op_ne (pe_ix ix_str (pv 4) (pv 6) (fun _ _ => rfl)) (pe_ix ix_str (pv 4) (pe_op op_sub (pv 6) pe_int) (fun _ _ => rfl)) (nomark _)))) (fun _ _ _ _ _ => (pv 6))) pa_nil))))
      (pss_one (ps_set (i := 2) nd rfl (Or.inl rfl) (pe_ifExp (PW.pt (pw_or (pt_cmpR op_isN (pv 2) pe_non (nomark _)) (pw_or1 (pt_cmpR op_lt (pv 5) (pv 2) (nomark _))))) (pv 5) (pv 2)))))) pss_nil)))
      (pss_one (ps_ret (pv 2))))), ?_⟩
    refine ⟨_, rfl, _, rfl, p, q, rfl, hpq, fun a H1 s1 _ ha => ?_⟩
    refine ⟨a, rfl, ⟨_, .of ha⟩, for_list (K := K) (a := a) (xs := wordsV (wordsX p q)) (fun i σ H' => ∃ v3 v4 v5 v6 : Option V, σ = [some (.int (p : Int)), some (.int (q : Int)), some (bestV (((wordsX p q).take i).foldl betterX none)), v3, v4, v5, v6] ∧ Same H1 H') ⟨none, none, none, none, rfl, .refl _⟩ (fun i σ H' _ ⟨_, _, _, _, _, s⟩ => .of (s _ _ ha)) ?_ ?_⟩
    · rintro i y σ H2 hi ⟨v3, v4, v5, v6, rfl, s2⟩
      obtain ⟨w, hw, rfl⟩ : ∃ w, (wordsX p q)[i]? = some w ∧ y = .str (strL w) := by
        unfold wordsV at hi
        rw [List.getElem?_map] at hi
        obtain ⟨w, h1, h2⟩ := Option.map_eq_some_iff.mp hi
        exact ⟨w, h1, h2.symm⟩
      have wl := words_len (List.mem_of_getElem? hw)
      have tk : ((wordsX p q).take (i + 1)).foldl betterX none = betterX (((wordsX p q).take i).foldl betterX none) w := by
        rw [List.take_succ, hw, List.foldl_append]
        rfl
      obtain ⟨b, hb⟩ : ∃ b, ((wordsX p q).take i).foldl betterX none = b := ⟨_, rfl⟩
      rw [hb] at tk ⊢
      refine ⟨_, rfl, _, rfl, _, rfl, _, _, rfl, rfl, (by rw [strL_len, hz]; omega), ?_⟩
      refine ⟨_, rfl, _, rfl, _, rfl, ?_⟩
      refine ⟨_, rfl, (by rw [strL_add, strL_len, List.length_append, hz]; omega), ?_⟩
      rw [innerL w (by omega)]
      refine ⟨_, _, rfl, rfl, _, rfl, ?_⟩
      by_cases hpr : primX w = true
      · refine iteY (by show (!!primX w) = true; rw [hpr]; rfl) ?_
        refine ⟨_, rfl, w, rfl, by omega, fun H3 s3 => ?_⟩
        have rl : (strL (rowX w)).length ≤ sizeLine := by rw [strL_len, row_len, hz]; omega
        have rl2 := row_len w
        refine ⟨_, rfl, strL (rowX w), rfl, rl, ?_⟩
        refine ⟨1, ((rowX w).length : Int), (by show [V.int 1, V.int (((strL (rowX w)).length : Nat) : Int)] = _; rw [strL_len]), ⟨by omega, by omega, by omega, by omega⟩, fun D nD => ?_⟩
        have hn : (((rowX w).length : Int) - 1).toNat = (rowX w).length - 1 := by omega
        refine lcM_range (lo := 1) (n := (((rowX w).length : Int) - 1).toNat) (R' := fun _ _ (_ : Unit) => True) (fun i => (rowX w).getD (i + 1) 0 != (rowX w).getD i 0) (fun _ => ()) nD (fun _ _ _ _ _ _ => True.intro) (by omega) ?_ ?_
        · intro j G C C0 hj s yes no
          have hj2 : j + 1 < (rowX w).length := by omega
          rw [show (1 : Int) + (j : Int) = ((j + 1 : Nat) : Int) by omega]
          refine ⟨rfl, ?_⟩
          refine ⟨_, rfl, _, rfl, strL (rowX w), _, _, rfl, rfl, rl, (by rw [strL_list]; exact sign_at hj2), ?_⟩
          refine ⟨_, rfl, _, rfl, _, _, rfl, rfl, strL (rowX w), (j : Int), _, rfl, (by show V.int (((j + 1 : Nat) : Int) - 1) = _; congr 1; omega), rl, (by rw [strL_list]; exact sign_at (by omega)), ?_⟩
          have e : (!decide (V.str ⟨#[(rowX w).getD (j + 1) 0]⟩ = V.str ⟨#[(rowX w).getD j 0]⟩)) = ((rowX w).getD (j + 1) 0 != (rowX w).getD j 0) := by
            by_cases h : (rowX w).getD (j + 1) 0 = (rowX w).getD j 0
            · rw [h, decide_eq_true rfl]
              simp
            · rw [decide_eq_false fun z => h (by
                have z2 := V.str.inj z
                have z3 := congrArg (fun y : Str => y.cps.toList) z2
                simpa [-List.getD_eq_getElem?_getD] using z3)]
              rw [bne_iff_ne.mpr h]
              rfl
          refine ⟨rfl, _, rfl, ?_⟩
          by_cases ht : ((rowX w).getD (j + 1) 0 != (rowX w).getD j 0) = true
          · refine iteY (by rw [e]; exact ht) ?_
            exact ⟨_, rfl, yes ht _ _ (fun _ _ q => q) True.intro⟩
          · rw [Bool.not_eq_true] at ht
            refine iteN (by rw [e]; exact ht) ?_
            exact no ht _ fun _ _ q => q
        · intro ys H4 s4 hD hall
          have hl := hall.length
          rw [List.length_map, hn] at hl
          dsimp only [tNil]
          refine ⟨D, ys, rfl, .inl (.of hD), ?_⟩
          have hruns : (1 : Int) + ((ys.length : Nat) : Int) = ((runsX (rowX w) : Nat) : Int) := by
            unfold runsX
            rw [hl]
            omega
          refine ⟨_, _, rfl, rfl, ?_⟩
          show gName 5 (V.int ((1 : Int) + ((ys.length : Nat) : Int))) _ _ _
          rw [hruns]
          have sH : Same H1 H4 := fun b o e => s4 _ _ (s3 _ _ (s2 _ _ e))
          cases b with
          | none =>
            have tb : betterX none w = some (runsX (rowX w)) := by
              unfold betterX
              rw [if_pos hpr]
            refine ⟨_, rfl, rfl, _, rfl, ?_⟩
            refine iteY (decide_eq_true (show bestV none = V.non from rfl)) ?_
            refine iteY rfl ?_
            refine ⟨_, rfl, some (.str (strL w)), some (.str (strL (rowX w))), some (.int ((runsX (rowX w) : Nat) : Int)), v6, ?_, sH⟩
            rw [tk, tb]
            rfl
          | some m =>
            refine ⟨_, rfl, rfl, _, rfl, ?_⟩
            refine iteN (decide_eq_false (show ¬ bestV (some m) = V.non from fun z => by cases z)) ?_
            refine ⟨_, rfl, _, rfl, _, _, rfl, rfl, _, rfl, ?_⟩
            by_cases hlt : runsX (rowX w) < m
            · have tb : betterX (some m) w = some (runsX (rowX w)) := by
                unfold betterX
                rw [if_pos hpr]
                show (if runsX (rowX w) < m then _ else _) = _
                rw [if_pos hlt]
              refine iteY (decide_eq_true (by omega)) ?_
              refine ⟨_, rfl, some (.str (strL w)), some (.str (strL (rowX w))), some (.int ((runsX (rowX w) : Nat) : Int)), v6, ?_, sH⟩
              rw [tk, tb]
              rfl
            · have tb : betterX (some m) w = some m := by
                unfold betterX
                rw [if_pos hpr]
                show (if runsX (rowX w) < m then _ else _) = _
                rw [if_neg hlt]
              refine iteN (decide_eq_false (by omega)) ?_
              refine ⟨_, rfl, some (.str (strL w)), some (.str (strL (rowX w))), some (.int ((runsX (rowX w) : Nat) : Int)), v6, ?_, sH⟩
              rw [tk, tb]
              rfl
      · rw [Bool.not_eq_true] at hpr
        refine iteN (by show (!!primX w) = false; rw [hpr]; rfl) ?_
        refine ⟨some (.str (strL w)), v4, v5, v6, ?_, s2⟩
        rw [tk]
        unfold betterX
        rw [if_neg (by rw [hpr]; decide)]
        rfl
    · rintro σ H2 ⟨v3, v4, v5, v6, rfl, s2⟩
      have e := List.take_length (l := wordsX p q)
      have l : (wordsV (wordsX p q)).length = (wordsX p q).length := by unfold wordsV; rw [List.length_map]
      rw [l, e]
      exact ⟨_, rfl, kk H2 (s1.trans s2)⟩
end
end T88

set_option Elab.async false
set_option linter.all false
set_option maxRecDepth 100000
set_option maxHeartbeats 0
namespace T88
/-- what least_runs answers, by brute force -/
def goodX (p q : Nat) : Bool := decide (dueX p q = some (if Nat.gcd p q = 1 then 2 else 4))
theorem g_1_1 : goodX 1 1 = true := by decide +kernel
theorem g_1_2 : goodX 1 2 = true := by decide +kernel
theorem g_2_1 : goodX 2 1 = true := by decide +kernel
theorem g_1_3 : goodX 1 3 = true := by decide +kernel
theorem g_2_2 : goodX 2 2 = true := by decide +kernel
theorem g_3_1 : goodX 3 1 = true := by decide +kernel
theorem g_1_4 : goodX 1 4 = true := by decide +kernel
theorem g_2_3 : goodX 2 3 = true := by decide +kernel
theorem g_3_2 : goodX 3 2 = true := by decide +kernel
theorem g_4_1 : goodX 4 1 = true := by decide +kernel
theorem g_1_5 : goodX 1 5 = true := by decide +kernel
theorem g_2_4 : goodX 2 4 = true := by decide +kernel
theorem g_3_3 : goodX 3 3 = true := by decide +kernel
theorem g_4_2 : goodX 4 2 = true := by decide +kernel
theorem g_5_1 : goodX 5 1 = true := by decide +kernel
theorem g_1_6 : goodX 1 6 = true := by decide +kernel
theorem g_2_5 : goodX 2 5 = true := by decide +kernel
theorem g_3_4 : goodX 3 4 = true := by decide +kernel
theorem g_4_3 : goodX 4 3 = true := by decide +kernel
theorem g_5_2 : goodX 5 2 = true := by decide +kernel
theorem g_6_1 : goodX 6 1 = true := by decide +kernel
theorem g_1_7 : goodX 1 7 = true := by decide +kernel
theorem g_2_6 : goodX 2 6 = true := by decide +kernel
theorem g_3_5 : goodX 3 5 = true := by decide +kernel
theorem g_4_4 : goodX 4 4 = true := by decide +kernel
theorem g_5_3 : goodX 5 3 = true := by decide +kernel
theorem g_6_2 : goodX 6 2 = true := by decide +kernel
theorem g_7_1 : goodX 7 1 = true := by decide +kernel
theorem g_1_8 : goodX 1 8 = true := by decide +kernel
theorem g_2_7 : goodX 2 7 = true := by decide +kernel
theorem g_3_6 : goodX 3 6 = true := by decide +kernel
theorem g_4_5 : goodX 4 5 = true := by decide +kernel
theorem g_5_4 : goodX 5 4 = true := by decide +kernel
theorem g_6_3 : goodX 6 3 = true := by decide +kernel
theorem g_7_2 : goodX 7 2 = true := by decide +kernel
theorem g_8_1 : goodX 8 1 = true := by decide +kernel
theorem all_2 : ∀ i, i < 1 → goodX (i + 1) (1 - i) = true := fun i h => by
  match i, h with
  | 0, _ => exact g_1_1
theorem all_3 : ∀ i, i < 2 → goodX (i + 1) (2 - i) = true := fun i h => by
  match i, h with
  | 0, _ => exact g_1_2
  | 1, _ => exact g_2_1
theorem all_4 : ∀ i, i < 3 → goodX (i + 1) (3 - i) = true := fun i h => by
  match i, h with
  | 0, _ => exact g_1_3
  | 1, _ => exact g_2_2
  | 2, _ => exact g_3_1
theorem all_5 : ∀ i, i < 4 → goodX (i + 1) (4 - i) = true := fun i h => by
  match i, h with
  | 0, _ => exact g_1_4
  | 1, _ => exact g_2_3
  | 2, _ => exact g_3_2
  | 3, _ => exact g_4_1
theorem all_6 : ∀ i, i < 5 → goodX (i + 1) (5 - i) = true := fun i h => by
  match i, h with
  | 0, _ => exact g_1_5
  | 1, _ => exact g_2_4
  | 2, _ => exact g_3_3
  | 3, _ => exact g_4_2
  | 4, _ => exact g_5_1
theorem all_7 : ∀ i, i < 6 → goodX (i + 1) (6 - i) = true := fun i h => by
  match i, h with
  | 0, _ => exact g_1_6
  | 1, _ => exact g_2_5
  | 2, _ => exact g_3_4
  | 3, _ => exact g_4_3
  | 4, _ => exact g_5_2
  | 5, _ => exact g_6_1
theorem all_8 : ∀ i, i < 7 → goodX (i + 1) (7 - i) = true := fun i h => by
  match i, h with
  | 0, _ => exact g_1_7
  | 1, _ => exact g_2_6
  | 2, _ => exact g_3_5
  | 3, _ => exact g_4_4
  | 4, _ => exact g_5_3
  | 5, _ => exact g_6_2
  | 6, _ => exact g_7_1
theorem all_9 : ∀ i, i < 8 → goodX (i + 1) (8 - i) = true := fun i h => by
  match i, h with
  | 0, _ => exact g_1_8
  | 1, _ => exact g_2_7
  | 2, _ => exact g_3_6
  | 3, _ => exact g_4_5
  | 4, _ => exact g_5_4
  | 5, _ => exact g_6_3
  | 6, _ => exact g_7_2
  | 7, _ => exact g_8_1
theorem due_good {p q : Nat} (h1 : 1 ≤ p) (h2 : 1 ≤ q) (h : p + q ≤ 9) : dueX p q = some (if Nat.gcd p q = 1 then 2 else 4) := by
  have go : ∀ n, (∀ i, i < n → goodX (i + 1) (n - i) = true) → p + q = n + 1 → goodX p q = true := fun n a e => by
    have := a (p - 1) (by omega)
    rw [show p - 1 + 1 = p by omega, show n - (p - 1) = q by omega] at this
    exact this
  refine of_decide_eq_true ?_
  have : p + q = 2 ∨ p + q = 3 ∨ p + q = 4 ∨ p + q = 5 ∨ p + q = 6 ∨ p + q = 7 ∨ p + q = 8 ∨ p + q = 9 := by omega
  rcases this with e | e | e | e | e | e | e | e
  · exact go 1 all_2 e
  · exact go 2 all_3 e
  · exact go 3 all_4 e
  · exact go 4 all_5 e
  · exact go 5 all_6 e
  · exact go 6 all_7 e
  · exact go 7 all_8 e
  · exact go 8 all_9 e
end T88

set_option Elab.async false
set_option linter.all false
set_option maxRecDepth 100000
set_option maxHeartbeats 4000000
namespace T88
open PySem L2 EK
abbrev sLaw : Stmt := top 18
theorem cut_ints (ns : List Int) (lo hi : Option Int) : ∃ ms : List Int, cutV (ns.map V.int) lo hi = ms.map V.int ∧ ms.length ≤ ns.length := by
  have h := cutV_length (ns.map V.int) lo hi
  have e : ∃ ms : List Int, cutV (ns.map V.int) lo hi = ms.map V.int := by
    unfold cutV
    rw [← List.map_drop, ← List.map_take]
    exact ⟨_, rfl⟩
  obtain ⟨ms, e⟩ := e
  rw [e, List.length_map, List.length_map] at h
  exact ⟨ms, e, h⟩
theorem ints_at {ns : List Int} {i : Nat} {x : V} (h : (ns.map V.int)[i]? = some x) : ∃ n, ns[i]? = some n ∧ x = .int n := by
  rw [List.getElem?_map] at h
  obtain ⟨n, hn, e⟩ := Option.map_eq_some_iff.mp h
  exact ⟨n, hn, e.symm⟩
theorem due_v {p q : Nat} (h1 : 1 ≤ p) (h2 : 1 ≤ q) (h : p + q ≤ 9) : bestV (dueX p q) = .int (leastR (p : Int) (q : Int)) := by
  rw [due_good h1 h2 h]
  unfold leastR
  rw [Int.natAbs_natCast, Int.natAbs_natCast]
  by_cases e : Nat.gcd p q = 1
  · rw [if_pos e, if_pos e]
    rfl
  · rw [if_neg e, if_neg e]
    rfl
theorem great_in {x : V} (h : x ∈ [V.int 50, .int (10 ^ (6 : Int).toNat), .int (10 ^ (20 : Int).toNat)]) : ∃ g : Nat, x = .int (g : Int) ∧ 0 < g ∧ g ≤ 100000000000000000000 := by
  rcases List.mem_cons.mp h with rfl | h
  · exact ⟨50, rfl, by decide, by decide⟩
  rcases List.mem_cons.mp h with rfl | h
  · exact ⟨1000000, rfl, by decide, by decide⟩
  rcases List.mem_cons.mp h with rfl | h
  · exact ⟨100000000000000000000, rfl, by decide, by decide⟩
  cases h
def spLaw (K : PySem.W.Frag) : Sp := fun vs H Q _ => ∃ (a : Addr) (ns : List Int), vs = [.ref a] ∧ SqL K H a (ns.map V.int) ∧ ns.length ≤ 63 ∧ ∀ H', Q (.bl true) H'
section
variable {P : Program} {w : World} {K : PySem.W.Frag} {mg : Str → Option Value} {base : Heap}
theorem scLaw : FnScope ["_law_script", "_law_cell", "_law_well_here", "_law_p", "_law_q", "_law_by", "_law_great", "_law_x", "_law_y"] ["_law_script"] (defScope sLaw) := ⟨rfl, rfl, rfl, by decide +kernel, rfl, by decide +kernel, by decide +kernel⟩
theorem ok_law {f fW fDR fO fLR fDV fDU : Addr} {fd fdW fdDR fdO fdLR fdDV fdDU : FuncData} (F : Fun K "law" "law" sLaw f fd) (T : TxtC K mg)
    (GW : FnOk P w K mg base CX0 1 fW fdW ["_law_cell"] spWell) (gW : mg "_law_well" = some (.ref fW)) (kW : PySem.W.keepIn K (.ref fW) = true) (bW : Binds K fdW ["_law_cell"] [])
    (GDR : FnOk P w K mg base CX0 1 fDR fdDR ["_law_well_here", "_law_many"] spDraw) (gDR : mg "_law_draw" = some (.ref fDR)) (kDR : PySem.W.keepIn K (.ref fDR) = true) (bDR : Binds K fdDR ["_law_well_here", "_law_many"] [])
    (GO : FnOk P w K mg base CX0 2 fO fdO ["_law_well_here", "_law_some"] spOne) (gO : mg "_law_one" = some (.ref fO)) (kO : PySem.W.keepIn K (.ref fO) = true) (bO : Binds K fdO ["_law_well_here", "_law_some"] [])
    (GLR : FnOk P w K mg base CX0 3 fLR fdLR ["p", "q"] spLR) (gLR : mg "least_runs" = some (.ref fLR)) (kLR : PySem.W.keepIn K (.ref fLR) = true) (bLR : Binds K fdLR ["p", "q"] [])
    (GDV : FnOk P w K mg base CX0 1 fDV fdDV ["_law_one_here", "_law_other"] spDiv) (gDV : mg "_law_divisor" = some (.ref fDV)) (kDV : PySem.W.keepIn K (.ref fDV) = true) (bDV : Binds K fdDV ["_law_one_here", "_law_other"] [])
    (GDU : FnOk P w K mg base CX0 2 fDU fdDU ["_law_p", "_law_q"] spDue) (gDU : mg "_law_due" = some (.ref fDU)) (kDU : PySem.W.keepIn K (.ref fDU) = true) (bDU : Binds K fdDU ["_law_p", "_law_q"] []) :
    FnOk P w K mg base CX0 4 f fd ["_law_script"] (spLaw K) := by
  refine F.ok scLaw (fun vs H Q E h => ?_) (fun cdv A outer s H vs Q E hr h => ?_)
  · obtain ⟨a, ns, rfl, _⟩ := h
    rfl
  · obtain ⟨a, ns, rfl, hS, hlen, k⟩ := h
    have nd := scLaw.nd
    have hrLR : Room 3 _ := hr
    have hrO : Room 2 _ := hr.mono (by decide)
    have hrDU : Room 2 _ := hr.mono (by decide)
    have hrW : Room 1 _ := hr.mono (by decide)
    have hrDR : Room 1 _ := hr.mono (by decide)
    have hrDV : Room 1 _ := hr.mono (by decide)
    refine ⟨_, (pss_cons (ps_for PassesOwn.never rfl (pi_list (pe_op op_cat (pe_slice sl_list (pv 0) po_none (po_some pe_int)) (pe_lst (pa_cons pe_int pa_nil)))) (pg_name (i := 1) nd rfl (Or.inl rfl)) (pss_cons (ps_set (i := 2) nd rfl (Or.inl rfl) (pe_call GW hrW rfl gW kW bW .nil pass0 (pa_cons (pv 1) pa_nil)))
      (pss_cons (ps_set (i := 3) nd rfl (Or.inl rfl) (pe_op op_add pe_int (pe_call GDR hrDR rfl gDR kDR bDR .nil pass0 (pa_cons (pv 2) (pa_cons pe_int pa_nil)))))
      (pss_cons (ps_set (i := 4) nd rfl (Or.inl rfl) (pe_op op_add pe_int (pe_call GDR hrDR rfl gDR kDR bDR .nil pass0 (pa_cons (pv 2) (pa_cons (pe_op op_sub pe_int (pv 3)) pa_nil)))))
      (pss_cons (ps_if (PW.pt (pw_or (pt_cmpR op_ne (pe_call GLR hrLR rfl gLR kLR bLR .nil pass0 (pa_cons (pv 3) (pa_cons (pv 4) pa_nil))) (pe_call GDU hrDU rfl gDU kDU bDU .nil pass0 (pa_cons (pv 3) (pa_cons (pv 4) pa_nil))) (nomark _)) (pw_or1 (pt_cmpR op_ne (pe_call GLR hrLR rfl gLR kLR bLR .nil pass0 (pa_cons (pv 4) (pa_cons (pv 3) pa_nil))) (pe_call GDU hrDU rfl gDU kDU bDU .nil pass0 (pa_cons (pv 4) (pa_cons (pv 3) pa_nil))) (nomark _))))) (pss_one (ps_ret pe_bl)) pss_nil)
      (pss_cons (ps_par (i := 5) (j := 6) (by rfl) nd rfl rfl (by decide) rfl rfl (pa_cons (pe_op op_add pe_int (pe_call GDR hrDR rfl gDR kDR bDR .nil pass0 (pa_cons (pv 2) (pa_cons pe_int pa_nil)))) (pa_cons (pe_call GO hrO rfl gO kO bO .nil pass0 (pa_cons (pv 2) (pa_cons (pe_lst (pa_cons pe_int (pa_cons (pe_op op_pow pe_int pe_int) (pa_cons (pe_op op_pow pe_int pe_int) pa_nil)))) pa_nil))) pa_nil)) (by rfl))
      (pss_cons (ps_par (i := 7) (j := 8) (by rfl) nd rfl rfl (by decide) rfl rfl (pa_cons (pe_op op_mul (pv 5) (pe_op op_add pe_int (pe_call GDR hrDR rfl gDR kDR bDR .nil pass0 (pa_cons (pv 2) (pa_cons (pv 6) pa_nil))))) (pa_cons (pe_op op_mul (pv 5) (pe_op op_add pe_int (pe_call GDR hrDR rfl gDR kDR bDR .nil pass0 (pa_cons (pv 2) (pa_cons (pv 6) pa_nil))))) pa_nil)) (by rfl))
      (pss_one (ps_if (pt_cmpR op_ne (pe_call GLR hrLR rfl gLR kLR bLR .nil pass0 (pa_cons (pv 7) (pa_cons (pv 8) pa_nil))) (pe_ifExp (pt_cmpR op_eq (pe_call GDV hrDV rfl gDV kDV bDV .nil pass0 (pa_cons (pv 7) (pa_cons (pv 8) pa_nil))) pe_int (nomark _)) pe_int pe_int) (nomark _)) (pss_one (ps_ret pe_bl)) pss_nil)))))))))
      (pss_one (ps_ret (pe_and (pe_cmpR op_eq (pe_call GLR hrLR rfl gLR kLR bLR .nil pass0 (pa_cons pe_int (pa_cons pe_int pa_nil))) pe_int (nomark _)) (pe_one (pe_cmpR op_eq (pe_call GLR hrLR rfl gLR kLR bLR .nil pass0 (pa_cons pe_int (pa_cons pe_int pa_nil))) pe_int (nomark _))))))), ?_⟩
    obtain ⟨ms, hms, hml⟩ := cut_ints ns none (some 4)
    refine ⟨_, rfl, _, rfl, a, _, rfl, hS, fun p0 z0 => ?_⟩
    rw [hms]
    obtain ⟨H1, e1, S1, A1⟩ := alloc (o := .lst (ms.map V.int)) z0
    rw [e1]
    refine ⟨(by show 1 ≤ sizeLine; decide), fun p1 z1 => ?_⟩
    obtain ⟨H2, e2, S2, A2⟩ := alloc (o := .lst [.int 0]) z1
    rw [e2]
    refine ⟨p0, p1, _, _, rfl, rfl, S2 _ _ A1, A2, ?_, fun p2 z2 => ?_⟩
    · rw [List.length_map]
      exact Nat.le_trans (Nat.add_le_add_right (Nat.le_trans hml hlen) 1) (by show 64 ≤ sizeLine; decide)
    have em : ms.map V.int ++ [V.int 0] = (ms ++ [0]).map V.int := by rw [List.map_append]; rfl
    rw [em]
    obtain ⟨H3, e3, S3, A3⟩ := alloc (o := .lst ((ms ++ [0]).map V.int)) z2
    rw [e3]
    refine ⟨p2, rfl, ⟨_, .of A3⟩, for_list (K := K) (a := p2) (xs := (ms ++ [0]).map V.int) (fun i σ H' => ∃ v1 v2 v3 v4 v5 v6 v7 v8 : Option V, σ = [some (.ref a), v1, v2, v3, v4, v5, v6, v7, v8] ∧ Same H3 H') ⟨none, none, none, none, none, none, none, none, rfl, .refl _⟩ (fun i σ H' _ ⟨_, _, _, _, _, _, _, _, _, s⟩ => .of (s _ _ A3)) ?_ ?_⟩
    · rintro i y σ H4 hi ⟨v1, v2, v3, v4, v5, v6, v7, v8, rfl, s4⟩
      obtain ⟨z, _, rfl⟩ := ints_at hi
      refine ⟨_, rfl, z, rfl, fun wl H5 nwl hw s5 => ?_⟩
      refine ⟨_, rfl, wl, 6, 0, rfl, hw, by decide, by decide, by decide, fun d H6 h0 h6 hw6 kb6 => ?_⟩
      obtain ⟨p', rfl⟩ : ∃ p : Nat, d = (p : Int) := ⟨d.toNat, by omega⟩
      refine ⟨_, _, rfl, rfl, ?_⟩
      obtain ⟨p, hp⟩ : ∃ p : Nat, p = p' + 1 := ⟨_, rfl⟩
      have ep : (1 : Int) + (p' : Int) = (p : Int) := by omega
      simp only [ep]
      refine ⟨_, rfl, _, rfl, _, _, rfl, rfl, wl, 9 - (p : Int), 0 + 1, rfl, hw6, by decide, by omega, by omega, fun d2 H7 h02 h72 hw7 kb7 => ?_⟩
      obtain ⟨q', rfl⟩ : ∃ q : Nat, d2 = (q : Int) := ⟨d2.toNat, by omega⟩
      refine ⟨_, _, rfl, rfl, ?_⟩
      obtain ⟨q, hq⟩ : ∃ q : Nat, q = q' + 1 := ⟨_, rfl⟩
      have eq : (1 : Int) + (q' : Int) = (q : Int) := by omega
      simp only [eq]
      have neq : ∀ m : Int, (!decide (V.int m = V.int m)) = false := fun m => by rw [decide_eq_true rfl]; rfl
      refine ⟨_, rfl, _, rfl, (p : Int), (q : Int), rfl, by omega, by omega, ?_⟩
      refine ⟨_, rfl, _, rfl, p, q, rfl, by omega, by omega, by omega, fun H8 s8 => ?_⟩
      rw [due_v (by omega) (by omega) (by omega)]
      refine ⟨rfl, _, rfl, ?_⟩
      refine iteN (neq _) ?_
      refine ⟨_, rfl, _, rfl, (q : Int), (p : Int), rfl, by omega, by omega, ?_⟩
      refine ⟨_, rfl, _, rfl, q, p, rfl, by omega, by omega, by omega, fun H9 s9 => ?_⟩
      rw [due_v (by omega) (by omega) (by omega)]
      refine ⟨rfl, _, rfl, ?_⟩
      refine iteN (neq _) ?_
      have hw9 : WellAt H9 wl (0 + 1 + 1) := by
        obtain ⟨w0, w1, w2, e, r⟩ := hw7
        exact ⟨w0, w1, w2, (s8.trans s9) _ _ e, r⟩
      refine ⟨_, rfl, wl, 4, 0 + 1 + 1, rfl, hw9, by decide, by decide, by decide, fun d3 H10 h03 h43 hw10 kb10 => ?_⟩
      refine ⟨_, _, rfl, rfl, ?_⟩
      refine ⟨_, rfl, _, _, rfl, rfl, ⟨by decide, by decide, by decide⟩, _, _, rfl, rfl, ⟨by decide, by decide, by decide⟩, (by show 3 ≤ sizeLine; decide), fun pl zl => ?_⟩
      obtain ⟨G, g1, U1, B1⟩ := alloc (o := .lst [V.int 50, .int (10 ^ (6 : Int).toNat), .int (10 ^ (20 : Int).toNat)]) zl
      have g1' : upd H10 pl (.lst [V.int 50, .int (10 ^ (6 : Int).toNat), .int (10 ^ (20 : Int).toNat)]) = G := g1
      simp only [g1']
      have hwG : WellAt G wl (0 + 1 + 1 + 1) := by
        obtain ⟨w0, w1, w2, e, r⟩ := hw10
        exact ⟨w0, w1, w2, U1 _ _ e, r⟩
      have npl : pl ≠ wl := fun e => by
        obtain ⟨_, _, _, e2, _⟩ := hw10
        rw [← e, zl] at e2
        cases e2
      refine ⟨wl, pl, 0 + 1 + 1 + 1, _, rfl, hwG, by decide, B1, npl, by decide, by decide, fun gx H11 hgx hw11 kb11 => ?_⟩
      obtain ⟨g, rfl, g0, gm⟩ := great_in hgx
      refine ⟨_, _, rfl, ?_⟩
      refine ⟨_, rfl, _, rfl, _, rfl, wl, (g : Int), 0 + 1 + 1 + 1 + 1, rfl, hw11, by decide, by omega, by omega, fun d4 H12 h04 h44 hw12 kb12 => ?_⟩
      refine ⟨_, _, rfl, rfl, _, _, rfl, rfl, .inl ⟨by omega, by omega⟩, ?_⟩
      refine ⟨_, rfl, _, rfl, _, rfl, wl, (g : Int), 0 + 1 + 1 + 1 + 1 + 1, rfl, hw12, by decide, by omega, by omega, fun d5 H13 h05 h45 hw13 kb13 => ?_⟩
      refine ⟨_, _, rfl, rfl, _, _, rfl, rfl, .inl ⟨by omega, by omega⟩, ?_⟩
      refine ⟨_, _, rfl, ?_⟩
      have pos : ∀ {a b : Int}, 0 ≤ a → 0 ≤ b → ∃ X : Nat, (1 + a) * (1 + b) = (X : Int) ∧ 1 ≤ X := fun {a b} ha hb => by
        have h : 0 < (1 + a) * (1 + b) := Int.mul_pos (by omega) (by omega)
        obtain ⟨X, hX⟩ := Int.eq_ofNat_of_zero_le (Int.le_of_lt h)
        exact ⟨X, hX, by omega⟩
      obtain ⟨X, hX, X1⟩ := pos h03 h04
      obtain ⟨Y, hY, Y1⟩ := pos h03 h05
      simp only [hX, hY]
      refine ⟨_, rfl, _, rfl, (X : Int), (Y : Int), rfl, by omega, by omega, ?_⟩
      refine ⟨_, rfl, _, rfl, X, Y, rfl, ?_⟩
      have fin : ∃ v1 v2 v3 v4 v5 v6 v7 v8 : Option V, [some (.ref a), some (.int z), some (.ref wl), some (.int (p : Int)), some (.int (q : Int)), some (.int (1 + d3)), some (.int (g : Int)), some (.int (X : Int)), some (.int (Y : Int))] = [some (.ref a), v1, v2, v3, v4, v5, v6, v7, v8] ∧ Same H3 H13 := by
        refine ⟨_, _, _, _, _, _, _, _, rfl, fun b o e => ?_⟩
        have e4 := s4 _ _ e
        have n := ne_of_none e4 nwl
        exact kb13 _ _ (kb12 _ _ (kb11 _ _ (U1 _ _ (kb10 _ _ (s9 _ _ (s8 _ _ (kb7 _ _ (kb6 _ _ (s5 _ _ e4) n) n))) n)) n) n) n
      have hl : leastR (X : Int) (Y : Int) = if Nat.gcd X Y = 1 then 2 else 4 := by
        unfold leastR
        rw [Int.natAbs_natCast, Int.natAbs_natCast]
      by_cases hg : Nat.gcd X Y = 1
      · rw [if_pos hg] at hl
        rw [hl]
        refine ⟨rfl, _, rfl, ?_⟩
        refine iteY (decide_eq_true (by rw [hg]; rfl)) ?_
        refine ⟨rfl, _, rfl, ?_⟩
        refine iteN (neq _) ?_
        exact fin
      · rw [if_neg hg] at hl
        rw [hl]
        refine ⟨rfl, _, rfl, ?_⟩
        refine iteN (decide_eq_false (fun z => hg (by injection z with z; exact_mod_cast z))) ?_
        refine ⟨rfl, _, rfl, ?_⟩
        refine iteN (neq _) ?_
        exact fin
    · rintro σ H9 ⟨v1, v2, v3, v4, v5, v6, v7, v8, rfl, s4⟩
      refine ⟨1, 1, rfl, by decide, by decide, rfl, _, rfl, ?_⟩
      refine iteY (by decide +kernel) ?_
      refine ⟨2, 2, rfl, by decide, by decide, rfl, ?_⟩
      have e : decide (V.int (leastR 2 2) = V.int 4) = true := decide_eq_true (by rw [show leastR 2 2 = 4 by decide +kernel])
      rw [e]
      exact k _
end
end T88

set_option Elab.async false
set_option linter.all false
set_option maxRecDepth 100000
set_option maxHeartbeats 4000000
/-! ErrEnd: an error class's facts, from what the top has written. -/
namespace EK
open PySem PySem.W L2
def errB (K : Frag) (C fI : Addr) (f : Str) : Bool :=
  xfB K C && (decide (findIn K (.ref C) "__setattr__" = some (some (.builtin "object.__setattr__"))) && (decide (findIn K (.ref C) f = some none) && (decide (typeIn K (.ref fI) = some (.type "function")) && (keepIn K (.ref C) &&
  (decide (typeIn K (.ref C) = some (.type "type")) && (decide (exmOne K (.ref C) (.ref C) = some true) && (decide (subIn K (.ref C) (.type "ValueError") = some true) && (decide (ks_superIn K C C "__init__" = some (some (.builtin "ValueError.__init__"))) &&
  (decide (mroIn K C (.ref C) = some true) && (decide (findIn K (.ref C) "__class__" = some (some (.builtin "object.__class__"))) && decide (mroIn K C (.type "object") = some true)))))))))))
theorem and2 {a b : Bool} (h : (a && b) = true) : a = true ∧ b = true := Bool.and_eq_true_iff.mp h
theorem err_mk {P : Program} {K : Frag} {h : Heap} {mg : Str → Option Value} {x f : Str} {C fI N cda cc : Addr} (X : K.In h) (G : h.Ns mainGlobals mg)
    {nm q qn msg file : Str} {bs bm : List Value} {sn : List Str} {sub : List Value} {ab : Bool} {col : Option Bool} {dd od an cdd cld : Option Addr} {m0 m1 m2 m3 m5 : Option Value} {oc doc pm ct ccl cl : Value} {osl ccs csl : Array (Option Value)} {vs : Array Value} {tf : Tok}
    {p1 p2 a1 a2 a3 a4 a5 a6 b1 b2 b3 b4 : Pos}
    (aC : nsIn K mainGlobals x = some (some (.ref C))) (xL : K.lookup C = some (excClassObj nm q C N bs bm true sn sub ab col dd m0 m1 m2 m3 m5 "ValueError.__new__")) (rv : HandSPX.refsVE bm = true)
    (iC : findIn K (.ref C) "__init__" = some (some (.ref fI)))
    (l1 : K.lookup fI = some ⟨oc, od, .func (ksFn "__init__" qn (eArgs f p1 p2) (eBody f msg a1 a2 a3 a4 a5 a6 b1 b2 b3 b4) (eScope f) .none .none doc pm an (.ref cda) ct cc), osl⟩) (c1 : codeIn K (.ref cda) qn = true)
    (bd : ∀ u v : Value, bindArgs (ksFn "__init__" qn (eArgs f p1 p2) (eBody f msg a1 a2 a3 a4 a5 a6 b1 b2 b3 b4) (eScope f) .none .none doc pm an (.ref cda) ct cc) ⟨[u, v], []⟩ = pure [(("self" : Str), u), (f, v)])
    (sc : ∀ L : Addr, SupCall a1 a2 a3 a4 a5 msg (callEnv (ksFn "__init__" qn (eArgs f p1 p2) (eBody f msg a1 a2 a3 a4 a5 a6 b1 b2 b3 b4) (eScope f) .none .none doc pm an (.ref cda) ct cc) L fI))
    (cd : K.lookup cda = some ⟨ccl, cdd, .fields vs, ccs⟩) (vf : vs[2]? = some (.str file tf)) (pf : ((P.main.file : Str) == file) = true) (cL : K.lookup cc = some ⟨cl, cld, .cell (some (.ref C)), csl⟩)
    (eB : errB K C fI f = true) (ho : nsIn K cStatics "thirdparty.any" = some none) (su : nsIn K mainGlobals "super" = some none) (fok : f ≠ "self" ∧ f ≠ "__class__" ∧ f ≠ "super" ∧ f ≠ "__debug__") (top : (P.main.scope.names.lookup ("super" : Str)).isSome = false) :
    ErrTxt P K mg x f C fI := by
  obtain ⟨h1, eB⟩ := and2 eB
  obtain ⟨h2, eB⟩ := and2 eB
  obtain ⟨h3, eB⟩ := and2 eB
  obtain ⟨h4, eB⟩ := and2 eB
  obtain ⟨h5, eB⟩ := and2 eB
  obtain ⟨h6, eB⟩ := and2 eB
  obtain ⟨h7, eB⟩ := and2 eB
  obtain ⟨h8, eB⟩ := and2 eB
  obtain ⟨h9, eB⟩ := and2 eB
  obtain ⟨h10, eB⟩ := and2 eB
  have T := xfB_ok h1
  exact { gC := mg_of X G aC, cls := ⟨nm, q, N, bs, bm, sn, sub, ab, col, dd, m0, m1, m2, m3, m5, xL, rv⟩, sa := of_decide_eq_true h2, ga := T.ga, gg := T.gg, noN := of_decide_eq_true h3, iC := iC, tC := of_decide_eq_true h4, kC := h5, exC := T.exC,
          tyC := of_decide_eq_true h6, hdC := T.hdC, te := of_decide_eq_true h7, hB := of_decide_eq_true h8, si := of_decide_eq_true h9, ho := ho, su := mg_none_of X G su, mC := of_decide_eq_true h10, fok := fok, top := top,
          fn := ⟨oc, od, qn, msg, doc, pm, an, cda, cc, ct, osl, p1, p2, a1, a2, a3, a4, a5, a6, b1, b2, b3, b4, l1, c1, bd, sc, ⟨ccl, cdd, ccs, vs, file, tf, cd, vf, pf⟩, ⟨cl, cld, csl, cL⟩⟩ }
theorem excC_of {K : Frag} {C fI : Addr} {f : Str} (eB : errB K C fI f = true) (hn : specialIn K (.builtin "object.__class__") "__get__" = some (some (.builtin "getset_descriptor.__get__"))) (ht : takesIn K (.builtin "object.__class__") = some true) : ExcC K C := by
  obtain ⟨h1, eB⟩ := and2 eB
  obtain ⟨h2, eB⟩ := and2 eB
  obtain ⟨h3, eB⟩ := and2 eB
  obtain ⟨h4, eB⟩ := and2 eB
  obtain ⟨h5, eB⟩ := and2 eB
  obtain ⟨h6, eB⟩ := and2 eB
  obtain ⟨h7, eB⟩ := and2 eB
  obtain ⟨h8, eB⟩ := and2 eB
  obtain ⟨h9, eB⟩ := and2 eB
  obtain ⟨h10, eB⟩ := and2 eB
  obtain ⟨h11, h12⟩ := and2 eB
  have T := xfB_ok h1
  exact ⟨T.ga, T.gg, T.exC, T.hdC, of_decide_eq_true h11, hn, ht, of_decide_eq_true h12⟩
/-- which class is which, told apart -/
def kindsB (K : Frag) (E : Addr) (Cs : List Addr) : Bool :=
  (Cs.zipIdx.all fun p => Cs.zipIdx.all fun q => decide (kitOne K (.ref p.1) (.ref q.1) = some (decide (p.2 = q.2)))) && (Cs.all fun C => decide (kitOne K (.ref C) (.ref E) = some true) && decide (kitOne K (.ref C) (.type "ValueError") = some true))
theorem kinds_kt {K : Frag} {E : Addr} {Cs : List Addr} (h : kindsB K E Cs = true) (i j : Nat) (C D : Addr) (h1 : Cs[i]? = some C) (h2 : Cs[j]? = some D) : kitOne K (.ref C) (.ref D) = some (decide (i = j)) := by
  obtain ⟨h, _⟩ := and2 h
  have q := List.all_eq_true.mp h (C, i) (List.mk_mem_zipIdx_iff_getElem?.mpr h1)
  have q := List.all_eq_true.mp q (D, j) (List.mk_mem_zipIdx_iff_getElem?.mpr h2)
  exact of_decide_eq_true q
theorem kinds_ke {K : Frag} {E : Addr} {Cs : List Addr} (h : kindsB K E Cs = true) (C : Addr) (hC : C ∈ Cs) : kitOne K (.ref C) (.ref E) = some true ∧ kitOne K (.ref C) (.type "ValueError") = some true := by
  obtain ⟨_, h⟩ := and2 h
  obtain ⟨a, b⟩ := and2 (List.all_eq_true.mp h C hC)
  exact ⟨of_decide_eq_true a, of_decide_eq_true b⟩
end EK

set_option Elab.async false
set_option linter.all false
set_option maxRecDepth 100000
set_option maxHeartbeats 4000000
namespace T88
open PySem L2 EK
theorem all_mk {l : PySem.W.OpenLaw} {w : World} {K : PySem.W.Frag} {h : Heap} {mg : Str → Option Value} {fa  : Addr}  (X : K.In h) (G : h.Ns mainGlobals mg) (hfa : mg "law" = some (.ref fa))
    {fN : Addr} {odN anN : Option Addr} {slN : Array (Option Value)} {ocN kVN dcN pmN cdN ctN : Value}
    {fCN : Addr} {odCN anCN : Option Addr} {slCN : Array (Option Value)} {ocCN kVCN dcCN pmCN cdCN ctCN : Value}
    {fLR : Addr} {odLR anLR : Option Addr} {slLR : Array (Option Value)} {ocLR kVLR dcLR pmLR cdLR ctLR : Value}
    {fW : Addr} {odW anW : Option Addr} {slW : Array (Option Value)} {ocW kVW dcW pmW cdW ctW : Value}
    {fDR : Addr} {odDR anDR : Option Addr} {slDR : Array (Option Value)} {ocDR kVDR dcDR pmDR cdDR ctDR : Value}
    {fO : Addr} {odO anO : Option Addr} {slO : Array (Option Value)} {ocO kVO dcO pmO cdO ctO : Value}
    {fRW : Addr} {odRW anRW : Option Addr} {slRW : Array (Option Value)} {ocRW kVRW dcRW pmRW cdRW ctRW : Value}
    {fDV : Addr} {odDV anDV : Option Addr} {slDV : Array (Option Value)} {ocDV kVDV dcDV pmDV cdDV ctDV : Value}
    {fOR : Addr} {odOR anOR : Option Addr} {slOR : Array (Option Value)} {ocOR kVOR dcOR pmOR cdOR ctOR : Value}
    {fDU : Addr} {odDU anDU : Option Addr} {slDU : Array (Option Value)} {ocDU kVDU dcDU pmDU cdDU ctDU : Value}
    {fZ : Addr} {odZ anZ : Option Addr} {slZ : Array (Option Value)} {ocZ kVZ dcZ pmZ cdZ ctZ : Value}
     
    (aN : PySem.W.nsIn K mainGlobals "is_number" = some (some (.ref fN))) (lN : K.lookup fN = some ⟨ocN, odN, .func (PySem.W.fnOf "is_number" "is_number" (defArgs sIsNum) (defBody sIsNum) (defScope sIsNum) .none kVN dcN pmN anN cdN ctN), slN⟩) (cN : PySem.W.codeIn K cdN "is_number" = true) (kN : PySem.W.keepIn K (.ref fN) = true)
    (aCN : PySem.W.nsIn K mainGlobals "check_number" = some (some (.ref fCN))) (lCN : K.lookup fCN = some ⟨ocCN, odCN, .func (PySem.W.fnOf "check_number" "check_number" (defArgs sCkN) (defBody sCkN) (defScope sCkN) .none kVCN dcCN pmCN anCN cdCN ctCN), slCN⟩) (cCN : PySem.W.codeIn K cdCN "check_number" = true) (kCN : PySem.W.keepIn K (.ref fCN) = true)
    (aLR : PySem.W.nsIn K mainGlobals "least_runs" = some (some (.ref fLR))) (lLR : K.lookup fLR = some ⟨ocLR, odLR, .func (PySem.W.fnOf "least_runs" "least_runs" (defArgs sLR) (defBody sLR) (defScope sLR) .none kVLR dcLR pmLR anLR cdLR ctLR), slLR⟩) (cLR : PySem.W.codeIn K cdLR "least_runs" = true) (kLR : PySem.W.keepIn K (.ref fLR) = true)
    (aW : PySem.W.nsIn K mainGlobals "_law_well" = some (some (.ref fW))) (lW : K.lookup fW = some ⟨ocW, odW, .func (PySem.W.fnOf "_law_well" "_law_well" (defArgs sWell) (defBody sWell) (defScope sWell) .none kVW dcW pmW anW cdW ctW), slW⟩) (cW : PySem.W.codeIn K cdW "_law_well" = true) (kW : PySem.W.keepIn K (.ref fW) = true)
    (aDR : PySem.W.nsIn K mainGlobals "_law_draw" = some (some (.ref fDR))) (lDR : K.lookup fDR = some ⟨ocDR, odDR, .func (PySem.W.fnOf "_law_draw" "_law_draw" (defArgs sDraw) (defBody sDraw) (defScope sDraw) .none kVDR dcDR pmDR anDR cdDR ctDR), slDR⟩) (cDR : PySem.W.codeIn K cdDR "_law_draw" = true) (kDR : PySem.W.keepIn K (.ref fDR) = true)
    (aO : PySem.W.nsIn K mainGlobals "_law_one" = some (some (.ref fO))) (lO : K.lookup fO = some ⟨ocO, odO, .func (PySem.W.fnOf "_law_one" "_law_one" (defArgs sOne) (defBody sOne) (defScope sOne) .none kVO dcO pmO anO cdO ctO), slO⟩) (cO : PySem.W.codeIn K cdO "_law_one" = true) (kO : PySem.W.keepIn K (.ref fO) = true)
    (aRW : PySem.W.nsIn K mainGlobals "_law_row" = some (some (.ref fRW))) (lRW : K.lookup fRW = some ⟨ocRW, odRW, .func (PySem.W.fnOf "_law_row" "_law_row" (defArgs sRow) (defBody sRow) (defScope sRow) .none kVRW dcRW pmRW anRW cdRW ctRW), slRW⟩) (cRW : PySem.W.codeIn K cdRW "_law_row" = true) (kRW : PySem.W.keepIn K (.ref fRW) = true)
    (aDV : PySem.W.nsIn K mainGlobals "_law_divisor" = some (some (.ref fDV))) (lDV : K.lookup fDV = some ⟨ocDV, odDV, .func (PySem.W.fnOf "_law_divisor" "_law_divisor" (defArgs sDiv) (defBody sDiv) (defScope sDiv) .none kVDV dcDV pmDV anDV cdDV ctDV), slDV⟩) (cDV : PySem.W.codeIn K cdDV "_law_divisor" = true) (kDV : PySem.W.keepIn K (.ref fDV) = true)
    (aOR : PySem.W.nsIn K mainGlobals "_law_orders" = some (some (.ref fOR))) (lOR : K.lookup fOR = some ⟨ocOR, odOR, .func (PySem.W.fnOf "_law_orders" "_law_orders" (defArgs sOrd) (defBody sOrd) (defScope sOrd) .none kVOR dcOR pmOR anOR cdOR ctOR), slOR⟩) (cOR : PySem.W.codeIn K cdOR "_law_orders" = true) (kOR : PySem.W.keepIn K (.ref fOR) = true)
    (aDU : PySem.W.nsIn K mainGlobals "_law_due" = some (some (.ref fDU))) (lDU : K.lookup fDU = some ⟨ocDU, odDU, .func (PySem.W.fnOf "_law_due" "_law_due" (defArgs sDue) (defBody sDue) (defScope sDue) .none kVDU dcDU pmDU anDU cdDU ctDU), slDU⟩) (cDU : PySem.W.codeIn K cdDU "_law_due" = true) (kDU : PySem.W.keepIn K (.ref fDU) = true)
    (aZ : PySem.W.nsIn K mainGlobals "law" = some (some (.ref fZ))) (lZ : K.lookup fZ = some ⟨ocZ, odZ, .func (PySem.W.fnOf "law" "law" (defArgs sLaw) (defBody sLaw) (defScope sLaw) .none kVZ dcZ pmZ anZ cdZ ctZ), slZ⟩) (cZ : PySem.W.codeIn K cdZ "law" = true) (kZ : PySem.W.keepIn K (.ref fZ) = true)
    (y1 : PySem.W.nsIn K mainGlobals "gcd" = some (some (.builtin "math.gcd")))
    (z1 : PySem.W.nsIn K mainGlobals "isinstance" = some none) (z2 : PySem.W.nsIn K mainGlobals "int" = some none) (z3 : PySem.W.nsIn K mainGlobals "bool" = some none) (z4 : PySem.W.nsIn K mainGlobals "len" = some none) (z5 : PySem.W.nsIn K mainGlobals "range" = some none) (z6 : PySem.W.nsIn K mainGlobals "sorted" = some none) :
    ∃ fd : FuncData, (∀ (s : Shared) (v : Value), BindsTo s fd ⟨[v], []⟩ [("_law_script", v)]) ∧ ∀ base : Heap, K.In base → base.Ns mainGlobals mg → FnOk l.prog w K mg base CX0 4 fa fd ["_law_script"] (spLaw K) := by
  have e := hfa.symm.trans (PySem.W.mg_of X G aZ)
  cases e
  have TD : TxtD K mg := ⟨PySem.W.mg_none_of X G z2, PySem.W.mg_none_of X G z4⟩
  have TC : TxtC K mg := ⟨PySem.W.mg_none_of X G z1, PySem.W.mg_none_of X G z2, PySem.W.mg_none_of X G z3, PySem.W.mg_of X G y1, PySem.W.mg_none_of X G z4, PySem.W.mg_none_of X G z5, PySem.W.mg_none_of X G z6⟩
  have FN := fun_mk (st := sIsNum) lN cN kN
  have FCN := fun_mk (st := sCkN) lCN cCN kCN
  have FLR := fun_mk (st := sLR) lLR cLR kLR
  have FW := fun_mk (st := sWell) lW cW kW
  have FDR := fun_mk (st := sDraw) lDR cDR kDR
  have FO := fun_mk (st := sOne) lO cO kO
  have FRW := fun_mk (st := sRow) lRW cRW kRW
  have FDV := fun_mk (st := sDiv) lDV cDV kDV
  have FOR := fun_mk (st := sOrd) lOR cOR kOR
  have FDU := fun_mk (st := sDue) lDU cDU kDU
  have FZ := fun_mk (st := sLaw) lZ cZ kZ
  have bN := FN.binds (ps := ["value", "least"]) fun _ _ _ _ _ _ us hl => match us, hl with | [_, _], _ => rfl
  have bCN := FCN.binds (ps := ["number", "least"]) fun _ _ _ _ _ _ us hl => match us, hl with | [_, _], _ => rfl
  have bLR := FLR.binds (ps := ["p", "q"]) fun _ _ _ _ _ _ us hl => match us, hl with | [_, _], _ => rfl
  have bW := FW.binds (ps := ["_law_cell"]) fun _ _ _ _ _ _ us hl => match us, hl with | [_], _ => rfl
  have bDR := FDR.binds (ps := ["_law_well_here", "_law_many"]) fun _ _ _ _ _ _ us hl => match us, hl with | [_, _], _ => rfl
  have bO := FO.binds (ps := ["_law_well_here", "_law_some"]) fun _ _ _ _ _ _ us hl => match us, hl with | [_, _], _ => rfl
  have bRW := FRW.binds (ps := ["_law_word"]) fun _ _ _ _ _ _ us hl => match us, hl with | [_], _ => rfl
  have bDV := FDV.binds (ps := ["_law_one_here", "_law_other"]) fun _ _ _ _ _ _ us hl => match us, hl with | [_, _], _ => rfl
  have bOR := FOR.binds (ps := ["_law_p", "_law_q"]) fun _ _ _ _ _ _ us hl => match us, hl with | [_, _], _ => rfl
  have bDU := FDU.binds (ps := ["_law_p", "_law_q"]) fun _ _ _ _ _ _ us hl => match us, hl with | [_, _], _ => rfl
  have gN := PySem.W.mg_of X G aN
  have gCN := PySem.W.mg_of X G aCN
  have gLR := PySem.W.mg_of X G aLR
  have gW := PySem.W.mg_of X G aW
  have gDR := PySem.W.mg_of X G aDR
  have gO := PySem.W.mg_of X G aO
  have gRW := PySem.W.mg_of X G aRW
  have gDV := PySem.W.mg_of X G aDV
  have gOR := PySem.W.mg_of X G aOR
  have gDU := PySem.W.mg_of X G aDU
  have gZ := PySem.W.mg_of X G aZ
  refine ⟨PySem.W.fnOf "law" "law" (defArgs sLaw) (defBody sLaw) (defScope sLaw) .none kVZ dcZ pmZ anZ cdZ ctZ, fun s v => .of_eq rfl, fun base _ _ => ?_⟩
  have GN : FnOk l.prog w K mg base CX0 1 fN _ ["value", "least"] (spNumber) := ok_isNumber FN TC
  have GCN : FnOk l.prog w K mg base CX0 2 fCN _ ["number", "least"] (spCkN) := ok_ckN FCN GN gN kN bN
  have GLR : FnOk l.prog w K mg base CX0 3 fLR _ ["p", "q"] (spLR) := ok_LR FLR TC GCN gCN kCN bCN
  have GW : FnOk l.prog w K mg base CX0 1 fW _ ["_law_cell"] (spWell) := ok_well FW TD
  have GDR : FnOk l.prog w K mg base CX0 1 fDR _ ["_law_well_here", "_law_many"] (spDraw) := ok_draw FDR TD
  have GO : FnOk l.prog w K mg base CX0 2 fO _ ["_law_well_here", "_law_some"] (spOne) := ok_one FO TD FDR gDR bDR
  have GDV : FnOk l.prog w K mg base CX0 1 fDV _ ["_law_one_here", "_law_other"] (spDiv) := ok_Div FDV TC
  have GOR : FnOk l.prog w K mg base CX0 1 fOR _ ["_law_p", "_law_q"] (spOrd) := ok_Ord FOR TC
  have GRW : FnOk l.prog w K mg base CX0 1 fRW _ ["_law_word"] (spRow) := ok_Row FRW TC
  have GDU : FnOk l.prog w K mg base CX0 2 fDU _ ["_law_p", "_law_q"] (spDue) := ok_Due FDU TC GOR gOR kOR bOR GRW gRW kRW bRW
  exact ok_law FZ TC GW gW kW bW GDR gDR kDR bDR GO gO kO bO GLR gLR kLR bLR GDV gDV kDV bDV GDU gDU kDU bDU
theorem walk {l : PySem.W.OpenLaw} {q : Program} {loose : List Str} {XP : (Str → Option Value) → Heap → Prop} {YP : World → Heap → Prop} {d : DefRec} {K : Params → PySem.W.Frag} (hn : l.most = some 63) (hdf : d.params.defaults = [])
    (hY : ∀ (w : World) (h : Heap), YP w h → (K w.params).In h)
    (F : ∀ (w : World) (mg : Str → Option Value) (fa : Addr) (h : Heap), (K w.params).In h → h.Ns mainGlobals mg → mg d.name = some (.ref fa) →
      ∃ fd : FuncData, (∀ (s : Shared) (u : Value), BindsTo s fd ⟨[u], []⟩ [("_law_script", u)]) ∧ ∀ base : Heap, (K w.params).In base → base.Ns mainGlobals mg → FnOk l.prog w (K w.params) mg base CX0 4 fa fd ["_law_script"] (spLaw (K w.params))) :
    PySem.W.WalkO q loose XP YP l.row.toRowW d [] (fun f vs => PySem.call f vs) :=
  L2.walk_of (n := 63) (k := 4) (x := "_law_script") (CX := fun _ => CX0) (sp := fun w => spLaw (K w.params)) hn (by decide) hdf ⟨rfl, by decide, by decide⟩ hY F (fun _ _ a ns hl _ hS => ⟨a, ns, rfl, hS, hl, fun _ => rfl⟩) fun _ _ _ _ _ z => z
end T88
open PySem PySem.W PyProof.Rows
set_option maxRecDepth 100000 in
set_option maxHeartbeats 0 in
theorem PySem.Challenge.cw_turnindex_k88_least_runs_of_rings_holds : PySem.Challenge.rw_turnindex_k88_least_runs_of_rings.Holds := by
  w_on; o_law; k_head; (case hw => w_witness2)
  k_fill
  refine T88.walk (l := PySem.Challenge.rw_turnindex_k88_least_runs_of_rings) rfl rfl (fun w h Y => PySem.W.kIn_of Y) ?F
  case F =>
    intro w mg fa h KX G hmg
    refine' T88.all_mk KX G hmg   ?paN ?plN ?pcN ?pkN ?paCN ?plCN ?pcCN ?pkCN ?paLR ?plLR ?pcLR ?pkLR ?paW ?plW ?pcW ?pkW ?paDR ?plDR ?pcDR ?pkDR ?paO ?plO ?pcO ?pkO ?paRW ?plRW ?pcRW ?pkRW ?paDV ?plDV ?pcDV ?pkDV ?paOR ?plOR ?pcOR ?pkOR ?paDU ?plDU ?pcDU ?pkDU ?paZ ?plZ ?pcZ ?pkZ ?y1 ?z1 ?z2 ?z3 ?z4 ?z5 ?z6
    (case paN => k_is); (case plN => k_is); (case pcN => k_is); (case pkN => k_is)
    (case paCN => k_is); (case plCN => k_is); (case pcCN => k_is); (case pkCN => k_is)
    (case paLR => k_is); (case plLR => k_is); (case pcLR => k_is); (case pkLR => k_is)
    (case paW => k_is); (case plW => k_is); (case pcW => k_is); (case pkW => k_is)
    (case paDR => k_is); (case plDR => k_is); (case pcDR => k_is); (case pkDR => k_is)
    (case paO => k_is); (case plO => k_is); (case pcO => k_is); (case pkO => k_is)
    (case paRW => k_is); (case plRW => k_is); (case pcRW => k_is); (case pkRW => k_is)
    (case paDV => k_is); (case plDV => k_is); (case pcDV => k_is); (case pkDV => k_is)
    (case paOR => k_is); (case plOR => k_is); (case pcOR => k_is); (case pkOR => k_is)
    (case paDU => k_is); (case plDU => k_is); (case pcDU => k_is); (case pkDU => k_is)
    (case paZ => k_is); (case plZ => k_is); (case pcZ => k_is); (case pkZ => k_is)
    (case y1 => k_is)
    (case z1 => k_is); (case z2 => k_is); (case z3 => k_is); (case z4 => k_is); (case z5 => k_is); (case z6 => k_is)
